import PyProof.Rows.All
import HandS.ForMost
import HandS.IsInst
import HandS.Deep
import HandS.Walk
import HandS.Wide
import HandS.TupAny
import HandS.Zip
import HandS.Style
import HandS.Codes
import HandS.Dict
import HandS.More
import HandS.WordsDict
import HandS.Set
import HandS.SetTxt0
import HandS.Strs
import HandS.SetFor
import KE.SortData
import KE.DataMinMax
import HandS.DictComp
import KE.KDictZip
import KE.GoesMore
import HandS.TupMul
import HandS.ExcValue
import PyProof.ListNew
import HandS.ListItems
import HandS.Iter
import HandS.Conv
import HandS.Sort
import KE.KDictList
import KE.KDictPairs
import HandS.TryOnly
import KE.LtData
import HandS.Gcd
import HandS.Star
import KE.KRevSl
import PySem.Challenge.RW_hoarseheath_k23_winds_known_by_hand
set_option Elab.async false
set_option linter.all false
set_option maxRecDepth 100000
/-! A data layer over HandS: values as data (PyData) or as cells that may change, a heap split into both. -/
namespace DL
open PySem PySem.Spec PyProof.Rows L2

/-! ### defs that are run where no repr is under way -/
section
variable {P : Program} {w : World} {K : PySem.W.Frag} {mg : Str → Option Value} {base : Heap}
/-- a def at f keeps the promise sp, wherever no guard is on the stack; nothing is raised -/
structure FnG (P : Program) (w : World) (K : PySem.W.Frag) (mg : Str → Option Value) (base : Heap) (k : Nat) (f : Addr) (fd : FuncData) (ps : List Str) (sp : List V → Hp → VK → Prop) : Prop where
  len : ∀ vs H Q, sp vs H Q → vs.length = ps.length
  go : ∀ (A : Around) (out : List Env) (s : Shared) (H : Hp) (args : Args) (us : List Value) (vs : List V) (Q : VK), Room k A → A.guards = some [] → Env0 P w K mg base A out s H →
    BindsTo s fd args (ps.zip us) → Vals vs us → sp vs H Q → codeAny (model P w) A (.call (.ref f) args) (CR CX0 out P w H s Q E0) s

theorem FnG.mono {j k : Nat} {f : Addr} {fd : FuncData} {ps : List Str} {sp : List V → Hp → VK → Prop} (F : FnG P w K mg base j f fd ps sp) (h : j ≤ k) : FnG P w K mg base k f fd ps sp :=
  ⟨F.len, fun A out s H args us vs Q hr => F.go A out s H args us vs Q (hr.mono h)⟩

/-- a def by its body -/
theorem fng_of {k : Nat} {f : Addr} {nm qual : Str} {st : Stmt} {fd : FuncData} {N ps : List Str} {sp : List V → Hp → VK → Prop} (F : Fun K nm qual st f fd) (S : FnScope N ps (defScope st)) (len : ∀ vs H Q, sp vs H Q → vs.length = ps.length)
    (body : ∀ (cdv : Value) (A : Around) (out : List Env) (s : Shared) (H : Hp) (vs : List V) (Q : VK), Room k (A.deeper (envOfC qual (defScope st) s.heap.objs.size f cdv)) → A.guards = some [] → sp vs H Q →
      ∃ t, PSs (cxOf CX0 P w K mg base N qual (defScope st) f cdv A out s H E0).nox (defBody st) t ∧ t { nx := fun _ H' => Q .non H', rt := Q } (start N vs) H) :
    FnG P w K mg base (k + 1) f fd ps sp := by
  refine ⟨len, fun A out s H args us vs Q hr hg e0 hb r hsp => ?_⟩
  obtain ⟨oc, od, kV, doc, pm, an, cdv, ct, osl, rfl, lk, hcd⟩ := F.ex
  have KX : K.In s.heap := e0.mod.kin.keeps fun b o e => (e0.bs b o e).1
  have lim : s.heap.NoLimit := e0.mod.nolimit.keeps fun b o e => (e0.bs b o e).1
  refine codeAny_call_function hr.depth (KX _ _ lk) rfl S.co S.gen rfl (PySem.W.codeRec_of KX hcd) (hb _ _ _ _ ?_)
  refine wpAny_newFunctionEnv_cells S.kind (fun y hy => ?_) fun env he s1 x => ?_
  · rcases S.par y.1 (List.of_mem_zip (a := y.1) (b := y.2) hy).1 with q | q
    · exact .inl q
    · exact .inr ⟨q, PySem.W.cellsFrom_some _ _ _ (.inl q)⟩
  · subst he
    refine ⟨lim.keeps x.toInCall.keep, codeAny_func ?_⟩
    obtain ⟨t, ht, hq⟩ := body cdv A out s H vs Q (hr.deeper _) hg hsp
    have I := inv_start (CX := CX0) (E := E0) S hr.hd e0 (len _ _ _ hsp) r x
    refine wpAny_mono (ht.nox.run [] s1 (start N vs) H _ I hq) (fun fl s' hs => ?_) fun e s' hs => hs
    cases fl with
    | ret u =>
      obtain ⟨v, σ', H', J, rv, q⟩ := hs
      exact ⟨v, H', J.os, J.bare, J.base, J.hok, rv, q⟩
    | next =>
      obtain ⟨σ', H', J, q⟩ := hs
      exact ⟨V.non, H', J.os, J.bare, J.base, J.hok, rfl, q⟩
    | brk => exact (let ⟨_, _, _, q⟩ := hs; q.elim)
    | cont => exact (let ⟨_, _, _, q⟩ := hs; q.elim)
end
section
variable {X : Cx} {k : Nat} {f : Addr} {fd : FuncData} {ps ks : List Str} {sp : List V → Hp → VK → Prop} {x : Str} {p pos : Pos} {e : Expr} {es : List Expr} {kws : List Keyword} {t tk : TA}
theorem runG {pins : List (Addr × Obj)} {σ : L2.St} {H : Hp} {s : Shared} {Q : VK} {args : Args} {us : List Value} {vs : List V} (F : FnG X.prog X.w X.K X.mg X.base k f fd ps sp) (hr : Room k X.A) (hg : X.A.guards = some []) (hb : BindsTo s fd args (ps.zip us))
    (I : Inv X pins σ H s) (r : Vals vs us) (h : sp vs H Q) : codeAny (model X.prog X.w) X.A (.call (.ref f) args) (fun c s' => match c with | .ok (.ret u) => EP X pins σ Q u s' | _ => False) s := by
  refine codeAny_mono (F.go X.A X.stack s H args us vs Q hr hg I.env0 hb r h) fun c s' hq => ?_
  cases c with
  | error e => exact hq
  | ok fl =>
    cases fl with
    | ret u => exact I.after hq
    | next => exact hq
    | brk => exact hq
    | cont => exact hq
/-- f(e, ..) -/
theorem pe_callG (F : FnG X.prog X.w X.K X.mg X.base k f fd ps sp) (hr : Room k X.A) (hg : X.A.guards = some []) (gl : Gl X x) (hm : X.mg x = some (.ref f)) (hk : PySem.W.keepIn X.K (.ref f) = true) (hb : Binds X.K fd ps [])
    (ha : PA X (e :: es) t) (hdb : (x == ("__debug__" : Str)) = false := by decide) (he : starEach (e :: es) X.env = (false, eval e X.env) :: starEach es X.env := by rfl) (hpl : (backTo pos (starEach es X.env)).any (·.1) = false := by rfl) :
    PE X (.Call (.Name x p) (e :: es) [] pos) (fun σ H Q => t σ H fun vs H1 => sp vs H1 Q) := by
  refine ⟨fun pins s σ H Q I h => wpAny_Call_Name_kw (ld_glob I gl hm ?_ hdb)⟩
  refine PySem.W.callWith_K (h₀ := X.base) I.ok.mod.kin hk (thn (ha.run pos pins s σ H _ I h) fun us s1 ⟨vs, H1, I1, r, q⟩ => ⟨I1.kIn, ?_⟩) he hpl
  have hl : (us ++ []).length = ps.length := by rw [List.append_nil, ← r.length]; exact F.len _ _ _ q
  have hb' := hb s1 us I1.kIn hl
  rw [List.append_nil] at hb'
  refine wpAny_call (codeAny_mono (runG F hr hg hb' I1 r q) fun c s' hq => ?_)
  cases c with
  | error e => exact hq.elim
  | ok fl => cases fl <;> first | exact hq | exact hq.elim
/-- f(k = v, ..), by names alone -/
theorem pe_callGK (F : FnG X.prog X.w X.K X.mg X.base k f fd ps sp) (hr : Room k X.A) (hg : X.A.guards = some []) (gl : Gl X x) (hm : X.mg x = some (.ref f)) (hk : PySem.W.keepIn X.K (.ref f) = true) {g : List V → List V} {gu : List Value → List Value}
    (hb : ∀ (s : Shared) (ws : List Value), (gu ws).length = ps.length → BindsTo s fd ⟨[], ks.zip ws⟩ (ps.zip (gu ws))) (hgu : ∀ {zs : List V} {ws : List Value}, Vals zs ws → Vals (g zs) (gu ws))
    (hkw : PK X kws tk) (hall : (backToKw pos (keywordEach kws X.env)).all (·.1.isSome) = true := by rfl) (hks : (backToKw pos (keywordEach kws X.env)).filterMap (·.1) = ks := by rfl)
    (hdb : (x == ("__debug__" : Str)) = false := by decide) (hpl : ((backTo pos (starEach [] X.env)).any (·.1) || (backToKw pos (keywordEach kws X.env)).any (·.1.isNone)) = false := by rfl) :
    PE X (.Call (.Name x p) [] kws pos) (fun σ H Q => tk σ H fun vs H1 => sp (g vs) H1 Q) := by
  refine ⟨fun pins s σ H Q I h => wpAny_Call_Name_kw (ld_glob I gl hm ?_ hdb)⟩
  refine PySem.W.callWith_KW0 (h₀ := X.base) I.ok.mod.kin hk hall ?_ hpl
  refine thn (hkw.run pos pins s σ H _ I h) fun ws s1 ⟨zs, H1, I1, r, q⟩ => ⟨I1.kIn, ?_⟩
  rw [hks]
  have hl : (gu ws).length = ps.length := by rw [← (hgu r).length]; exact F.len _ _ _ q
  refine wpAny_call (codeAny_mono (runG F hr hg (hb s1 ws hl) I1 (hgu r) q) fun c s' hq => ?_)
  cases c with
  | error e => exact hq.elim
  | ok fl => cases fl <;> first | exact hq | exact hq.elim
end
end DL

namespace DL
open PySem PySem.Spec PyProof.Rows L2

/-! ### values: data, or a cell that may change -/
inductive AV where
  | dat (d : PyData)
  | mut (a : Addr)
  | cls (n : String)
  | raw (ns : List Int)
inductive MO where
  | lst (xs : List AV)
  | dK (kvs : List (Key × AV))
  | tup (xs : List AV)
  | dT (kvs : List (List Key × AV))
  | lk (o : Obj) (us : List (Key × V)) (kvs : List (Key × AV))
abbrev Mu := Addr → Option MO
def mset (μ : Mu) (a : Addr) (o : Option MO) : Mu := fun b => if b = a then o else μ b
theorem mset_same {μ : Mu} {a : Addr} {o : Option MO} : mset μ a o a = o := if_pos rfl
theorem mset_ne {μ : Mu} {a b : Addr} {o : Option MO} (h : b ≠ a) : mset μ a o b = μ b := if_neg h
/-- the heap without the cells that may change -/
def hid (H : Hp) (μ : Mu) : Hp := fun b => if (μ b).isSome then none else H b
theorem hid_some {H : Hp} {μ : Mu} {b : Addr} {o : HO} (h : hid H μ b = some o) : μ b = none ∧ H b = some o := by
  unfold hid at h
  cases e : μ b with
  | none => rw [e] at h; exact ⟨rfl, by simpa using h⟩
  | some m => rw [e] at h; simp at h
theorem hid_none {H : Hp} {μ : Mu} {b : Addr} (e : μ b = none) : hid H μ b = H b := by
  unfold hid; rw [e]; rfl
theorem hid_same (H : Hp) (μ : Mu) : Same (hid H μ) H := fun _ _ h => (hid_some h).2

/-- data are tracked or known to the object, never of the written part -/
abbrev K0 : PySem.W.Frag := []
theorem k0_lst {H : Hp} {a : Addr} {xs : List V} (h : SqL K0 H a xs) : Rd H a (.lst xs) := by
  rcases h with h | ⟨o, its, n, e, _⟩
  · exact h
  · cases e
theorem k0_tup {H : Hp} {a : Addr} {xs : List V} (h : SqT K0 H a xs) : Rd H a (.tup xs) := by
  rcases h with h | ⟨o, its, n, e, _⟩
  · exact h
  · cases e
theorem rd_mono {H H' : Hp} {a : Addr} {u : HO} (e : Same H H') (h : Rd H a u) : Rd H' a u := by
  rcases h with h | ⟨o, h⟩
  · exact .inl (e _ _ h)
  · exact .inr ⟨o, e _ _ h⟩
theorem sqT_mono {K : PySem.W.Frag} {H H' : Hp} {a : Addr} {xs : List V} (e : Same H H') (h : SqT K H a xs) : SqT K H' a xs := by
  rcases h with (h | ⟨o, h⟩) | h
  · exact .inl (.inl (e _ _ h))
  · exact .inl (.inr ⟨o, e _ _ h⟩)
  · exact .inr h
mutual
theorem dp_mono {K : PySem.W.Frag} {H H' : Hp} (e : Same H H') : ∀ {v : V} {d : PyData}, Dp K H v d → Dp K H' v d
  | _, _, .non => .non
  | _, _, .bl b => .bl b
  | _, _, .int i => .int i
  | _, _, .str x => .str x
  | _, _, .lst h a => .lst (e.seq h) (dpAll_mono e a)
  | _, _, .tup h a => .tup (sqT_mono e h) (dpAll_mono e a)
theorem dpAll_mono {K : PySem.W.Frag} {H H' : Hp} (e : Same H H') : ∀ {vs : List V} {ds : List PyData}, DpAll K H vs ds → DpAll K H' vs ds
  | _, _, .nil => .nil
  | _, _, .cons a b => .cons (dp_mono e a) (dpAll_mono e b)
end
theorem dpAll_len {K : PySem.W.Frag} {H : Hp} : ∀ {vs : List V} {ds : List PyData}, DpAll K H vs ds → vs.length = ds.length
  | _, _, .nil => rfl
  | _, _, .cons _ b => by rw [List.length_cons, List.length_cons, dpAll_len b]
theorem dpAll_get {K : PySem.W.Frag} {H : Hp} : ∀ {vs : List V} {ds : List PyData} {i : Nat} {d : PyData}, DpAll K H vs ds → ds[i]? = some d → ∃ v, vs[i]? = some v ∧ Dp K H v d
  | _, _, _, _, .nil, h => by simp at h
  | _, _, 0, _, .cons a _, h => by simp at h; subst h; exact ⟨_, rfl, a⟩
  | _, _, i + 1, _, .cons _ b, h => by
    obtain ⟨v, h1, h2⟩ := dpAll_get (i := i) b (by simpa using h)
    exact ⟨v, by simpa using h1, h2⟩
theorem dpAll_getV {K : PySem.W.Frag} {H : Hp} : ∀ {vs : List V} {ds : List PyData} {i : Nat} {v : V}, DpAll K H vs ds → vs[i]? = some v → ∃ d, ds[i]? = some d ∧ Dp K H v d
  | _, _, _, _, .nil, h => by simp at h
  | _, _, 0, _, .cons a _, h => by simp at h; subst h; exact ⟨_, rfl, a⟩
  | _, _, i + 1, _, .cons _ b, h => by
    obtain ⟨v, h1, h2⟩ := dpAll_getV (i := i) b (by simpa using h)
    exact ⟨v, by simpa using h1, h2⟩
theorem dpAll_append {K : PySem.W.Frag} {H : Hp} : ∀ {vs ws : List V} {ds es : List PyData}, DpAll K H vs ds → DpAll K H ws es → DpAll K H (vs ++ ws) (ds ++ es)
  | _, _, _, _, .nil, h => h
  | _, _, _, _, .cons a b, h => .cons a (dpAll_append b h)
theorem dpAll_take {K : PySem.W.Frag} {H : Hp} : ∀ {vs : List V} {ds : List PyData} (n : Nat), DpAll K H vs ds → DpAll K H (vs.take n) (ds.take n)
  | _, _, 0, _ => .nil
  | _, _, n + 1, .nil => .nil
  | _, _, n + 1, .cons a b => .cons a (dpAll_take n b)
theorem dpAll_drop {K : PySem.W.Frag} {H : Hp} : ∀ {vs : List V} {ds : List PyData} (n : Nat), DpAll K H vs ds → DpAll K H (vs.drop n) (ds.drop n)
  | _, _, 0, h => h
  | _, _, n + 1, .nil => .nil
  | _, _, n + 1, .cons a b => dpAll_drop n b

def RelA (K : PySem.W.Frag) (H : Hp) (v : V) : AV → Prop
  | .dat d => Dp K0 H v d
  | .mut a => v = .ref a
  | .cls n => v = .ty n
  | .raw ns => ∃ a, v = .ref a ∧ SqL K H a (ns.map V.int)
theorem relA_mono {K : PySem.W.Frag} {H H' : Hp} (e : Same H H') {v : V} : ∀ {a : AV}, RelA K H v a → RelA K H' v a
  | .dat _, h => dp_mono e h
  | .mut _, h => h
  | .cls _, h => h
  | .raw _, ⟨a, e1, e2⟩ => ⟨a, e1, e.seq e2⟩
theorem rB {K : PySem.W.Frag} {H : Hp} (b : Bool) : RelA K H (.bl b) (.dat (.bool b)) := Dp.bl b
theorem rI {K : PySem.W.Frag} {H : Hp} (b : Int) : RelA K H (.int b) (.dat (.int b)) := Dp.int b
theorem rS {K : PySem.W.Frag} {H : Hp} (b : Str) : RelA K H (.str b) (.dat (.str b)) := Dp.str b
theorem rN {K : PySem.W.Frag} {H : Hp} : RelA K H .non (.dat .none) := Dp.non
abbrev RelAs (K : PySem.W.Frag) (H : Hp) : List V → List AV → Prop := Paired (RelA K H)
theorem paired_mono {α β : Type} {R R' : α → β → Prop} (h : ∀ a b, R a b → R' a b) : ∀ {xs : List α} {ys : List β}, Paired R xs ys → Paired R' xs ys
  | _, _, .nil => .nil
  | _, _, .cons a b => .cons (h _ _ a) (paired_mono h b)
theorem relAs_mono {K : PySem.W.Frag} {H H' : Hp} (e : Same H H') {vs : List V} {as : List AV} (h : RelAs K H vs as) : RelAs K H' vs as := paired_mono (fun _ _ => relA_mono e) h
theorem paired_get {α β : Type} {R : α → β → Prop} : ∀ {xs : List α} {ys : List β} {i : Nat} {y : β}, Paired R xs ys → ys[i]? = some y → ∃ x, xs[i]? = some x ∧ R x y
  | _, _, _, _, .nil, h => by simp at h
  | _, _, 0, _, .cons a _, h => by simp at h; subst h; exact ⟨_, rfl, a⟩
  | _, _, i + 1, _, .cons _ b, h => by
    obtain ⟨v, h1, h2⟩ := paired_get (i := i) b (by simpa using h)
    exact ⟨v, by simpa using h1, h2⟩
theorem paired_append {α β : Type} {R : α → β → Prop} : ∀ {xs xs' : List α} {ys ys' : List β}, Paired R xs ys → Paired R xs' ys' → Paired R (xs ++ xs') (ys ++ ys')
  | _, _, _, _, .nil, h => h
  | _, _, _, _, .cons a b, h => .cons a (paired_append b h)
theorem paired_set {α β : Type} {R : α → β → Prop} {x : α} {y : β} (r : R x y) : ∀ {xs : List α} {ys : List β} (i : Nat), Paired R xs ys → Paired R (xs.set i x) (ys.set i y)
  | _, _, _, .nil => .nil
  | _, _, 0, .cons _ b => .cons r b
  | _, _, i + 1, .cons a b => .cons a (paired_set r i b)
theorem paired_erase {α β : Type} {R : α → β → Prop} : ∀ {xs : List α} {ys : List β} (i : Nat), Paired R xs ys → Paired R (xs.eraseIdx i) (ys.eraseIdx i)
  | _, _, _, .nil => .nil
  | _, _, 0, .cons _ b => b
  | _, _, i + 1, .cons a b => .cons a (paired_erase i b)
mutual
theorem dp_up {K : PySem.W.Frag} {H : Hp} : ∀ {v : V} {d : PyData}, Dp K0 H v d → Dp K H v d
  | _, _, .non => .non
  | _, _, .bl b => .bl b
  | _, _, .int i => .int i
  | _, _, .str x => .str x
  | _, _, .lst h a => .lst (.inl (k0_lst h)) (dpAll_up a)
  | _, _, .tup h a => .tup (.inl (k0_tup h)) (dpAll_up a)
theorem dpAll_up {K : PySem.W.Frag} {H : Hp} : ∀ {vs : List V} {ds : List PyData}, DpAll K0 H vs ds → DpAll K H vs ds
  | _, _, .nil => .nil
  | _, _, .cons a b => .cons (dp_up a) (dpAll_up b)
end
theorem relAs_dat {K : PySem.W.Frag} {H : Hp} : ∀ {vs : List V} {ds : List PyData}, DpAll K0 H vs ds ↔ RelAs K H vs (ds.map AV.dat)
  | vs, [] => ⟨fun h => by cases h; exact .nil, fun h => by cases h; exact .nil⟩
  | vs, d :: ds => ⟨fun h => by
      cases h with
      | cons a b => exact .cons a (relAs_dat.mp b), fun h => by
      cases h with
      | cons a b => exact .cons a (relAs_dat.mpr b)⟩

/-- the cells hold what μ says -/
def HM (K : PySem.W.Frag) (H : Hp) (μ : Mu) : Prop := ∀ a m, μ a = some m → match m with
  | .lst as => ∃ xs, H a = some (.lst xs) ∧ RelAs K (hid H μ) xs as
  | .dK kvs => ∃ vs, H a = some (.dK vs) ∧ Paired (fun (p : Key × V) (q : Key × AV) => p.1 = q.1 ∧ RelA K (hid H μ) p.2 q.2) vs kvs
  | .tup as => ∃ xs, H a = some (.tup xs) ∧ RelAs K (hid H μ) xs as
  | .dT kvs => ∃ vs, H a = some (.dT vs) ∧ Paired (fun (p : List Key × V) (q : List Key × AV) => p.1 = q.1 ∧ RelA K (hid H μ) p.2 q.2) vs kvs
  | .lk o us kvs => ∃ vs, H a = some (.frz o (.dK vs)) ∧ vs = us ∧ Paired (fun (p : Key × V) (q : Key × AV) => p.1 = q.1 ∧ RelA K (hid H μ) p.2 q.2) us kvs
theorem HM.ne {K : PySem.W.Frag} {H : Hp} {μ : Mu} (h : HM K H μ) {p : Addr} (n : H p = none) : μ p = none := by
  cases e : μ p with
  | none => rfl
  | some m =>
    have q := h p m e
    cases m with
    | lst as => obtain ⟨xs, e1, _⟩ := q; rw [n] at e1; cases e1
    | dK kvs => obtain ⟨xs, e1, _⟩ := q; rw [n] at e1; cases e1
    | tup as => obtain ⟨xs, e1, _⟩ := q; rw [n] at e1; cases e1
    | dT kvs => obtain ⟨xs, e1, _⟩ := q; rw [n] at e1; cases e1
    | lk o us kvs => obtain ⟨xs, e1, _⟩ := q; rw [n] at e1; cases e1
theorem hid_new {K : PySem.W.Frag} {H : Hp} {μ : Mu} (h : HM K H μ) {p : Addr} (n : H p = none) (o : HO) : Same (hid H μ) (hid (upd H p o) μ) := fun b u e => by
  obtain ⟨e1, e2⟩ := hid_some e
  rw [hid_none e1, upd_ne (ne_of_none e2 n), e2]
theorem HM.mono {K : PySem.W.Frag} {H H' : Hp} {μ : Mu} (h : HM K H μ) (e : Same (hid H μ) (hid H' μ)) (k : ∀ a, (μ a).isSome → H' a = H a) : HM K H' μ := fun a m ha => by
  have q := h a m ha
  have ka := k a (by rw [ha]; rfl)
  cases m with
  | lst as => obtain ⟨xs, e1, r⟩ := q; exact ⟨xs, ka.trans e1, relAs_mono e r⟩
  | dK kvs => obtain ⟨xs, e1, r⟩ := q; exact ⟨xs, ka.trans e1, paired_mono (fun _ _ z => ⟨z.1, relA_mono e z.2⟩) r⟩
  | tup as => obtain ⟨xs, e1, r⟩ := q; exact ⟨xs, ka.trans e1, relAs_mono e r⟩
  | dT kvs => obtain ⟨xs, e1, r⟩ := q; exact ⟨xs, ka.trans e1, paired_mono (fun _ _ z => ⟨z.1, relA_mono e z.2⟩) r⟩
  | lk o us kvs => obtain ⟨xs, e1, e2, r⟩ := q; exact ⟨xs, ka.trans e1, e2, paired_mono (fun _ _ z => ⟨z.1, relA_mono e z.2⟩) r⟩
theorem HM.new {K : PySem.W.Frag} {H : Hp} {μ : Mu} (h : HM K H μ) {p : Addr} (n : H p = none) (o : HO) : HM K (upd H p o) μ :=
  h.mono (hid_new h n o) fun a ha => upd_ne fun z => by subst z; rw [h.ne n] at ha; cases ha
/-- a cell stored, or laid anew -/
theorem hid_store {H : Hp} {μ : Mu} {a : Addr} (ha : hid H μ a = none) (o : HO) (m : MO) : hid (upd H a o) (mset μ a (some m)) = hid H μ := by
  funext b
  by_cases e : b = a
  · subst e
    rw [ha]
    unfold hid
    rw [mset_same]
    rfl
  · unfold hid
    rw [mset_ne e, upd_ne e]
theorem hid_cell {H : Hp} {μ : Mu} {a : Addr} {m : MO} (h : μ a = some m) : hid H μ a = none := by
  unfold hid; rw [h]; rfl
theorem HM.store {K : PySem.W.Frag} {H : Hp} {μ : Mu} (h : HM K H μ) {a : Addr} (ha : hid H μ a = none) {xs : List V} {as : List AV} (r : RelAs K (hid H μ) xs as) : HM K (upd H a (.lst xs)) (mset μ a (some (.lst as))) := fun b m hb => by
  rw [hid_store ha]
  by_cases e : b = a
  · subst e
    rw [mset_same] at hb
    cases hb
    exact ⟨xs, upd_same, r⟩
  · rw [mset_ne e] at hb
    have q := h b m hb
    cases m with
    | lst as => obtain ⟨ys, e1, r1⟩ := q; exact ⟨ys, (upd_ne e).trans e1, r1⟩
    | dK kvs => obtain ⟨ys, e1, r1⟩ := q; exact ⟨ys, (upd_ne e).trans e1, r1⟩
    | tup as => obtain ⟨ys, e1, r1⟩ := q; exact ⟨ys, (upd_ne e).trans e1, r1⟩
    | dT kvs => obtain ⟨ys, e1, r1⟩ := q; exact ⟨ys, (upd_ne e).trans e1, r1⟩
    | lk o us kvs => obtain ⟨ys, e1, r1⟩ := q; exact ⟨ys, (upd_ne e).trans e1, r1⟩
theorem HM.lst {K : PySem.W.Frag} {H : Hp} {μ : Mu} (h : HM K H μ) {a : Addr} {as : List AV} (e : μ a = some (.lst as)) : ∃ xs, H a = some (.lst xs) ∧ RelAs K (hid H μ) xs as := h a _ e
/-- a cell that nobody changes any more is data -/
theorem hid_freeze {H : Hp} {μ : Mu} (a : Addr) : Same (hid H μ) (hid H (mset μ a none)) := fun b o e => by
  obtain ⟨e1, e2⟩ := hid_some e
  have z : mset μ a none b = none := by
    by_cases q : b = a
    · rw [q]; exact mset_same
    · rw [mset_ne q]; exact e1
  rw [hid_none z]
  exact e2
theorem HM.freeze {K : PySem.W.Frag} {H : Hp} {μ : Mu} (h : HM K H μ) (a : Addr) : HM K H (mset μ a none) := fun b m hb => by
  have nb : b ≠ a := fun z => by subst z; rw [mset_same] at hb; cases hb
  rw [mset_ne nb] at hb
  have q := h b m hb
  cases m with
  | lst as => obtain ⟨xs, e1, r⟩ := q; exact ⟨xs, e1, relAs_mono (hid_freeze a) r⟩
  | dK kvs => obtain ⟨xs, e1, r⟩ := q; exact ⟨xs, e1, paired_mono (fun _ _ z => ⟨z.1, relA_mono (hid_freeze a) z.2⟩) r⟩
  | tup as => obtain ⟨xs, e1, r⟩ := q; exact ⟨xs, e1, relAs_mono (hid_freeze a) r⟩
  | dT kvs => obtain ⟨xs, e1, r⟩ := q; exact ⟨xs, e1, paired_mono (fun _ _ z => ⟨z.1, relA_mono (hid_freeze a) z.2⟩) r⟩
  | lk o us kvs => obtain ⟨xs, e1, e2, r⟩ := q; exact ⟨xs, e1, e2, paired_mono (fun _ _ z => ⟨z.1, relA_mono (hid_freeze a) z.2⟩) r⟩
theorem dp_freeze {K : PySem.W.Frag} {H : Hp} {μ : Mu} (h : HM K H μ) {a : Addr} {ds : List PyData} (e : μ a = some (.lst (ds.map AV.dat))) : Dp K0 (hid H (mset μ a none)) (.ref a) (.list ds) := by
  obtain ⟨xs, e1, r⟩ := h.lst e
  refine .lst (xs := xs) (.inl (.inl ?_)) (dpAll_mono (hid_freeze a) (relAs_dat.mpr r))
  rw [hid_none mset_same]
  exact e1

/-! ### slots -/
abbrev Dl := List (Option AV)
structure Rel (K : PySem.W.Frag) (H : Hp) (σ : L2.St) (δ : Dl) : Prop where
  len : σ.length = δ.length
  get : ∀ (i : Nat) (a : AV), δ[i]? = some (some a) → ∃ v : V, σ[i]? = some (some v) ∧ RelA K H v a
theorem Rel.mono {K : PySem.W.Frag} {H H' : Hp} {σ : L2.St} {δ : Dl} (e : Same H H') (R : Rel K H σ δ) : Rel K H' σ δ :=
  ⟨R.len, fun i a h => let ⟨v, h1, h2⟩ := R.get i a h; ⟨v, h1, relA_mono e h2⟩⟩
theorem Rel.set {K : PySem.W.Frag} {H : Hp} {σ : L2.St} {δ : Dl} (R : Rel K H σ δ) (i : Nat) {v : V} {a : AV} (r : RelA K H v a) : Rel K H (σ.set i (some v)) (δ.set i (some a)) := by
  refine ⟨by rw [List.length_set, List.length_set]; exact R.len, fun j b h => ?_⟩
  by_cases e : i = j
  · subst e
    by_cases hi : i < δ.length
    · rw [List.getElem?_set_self hi] at h
      cases h
      exact ⟨v, List.getElem?_set_self (by rw [R.len]; exact hi), r⟩
    · rw [List.getElem?_eq_none (by rw [List.length_set]; omega)] at h
      cases h
  · rw [List.getElem?_set_ne e] at h ⊢
    exact R.get j b h
def wipeD (δ : Dl) : List Nat → Dl
  | [] => δ
  | v :: vs => (wipeD δ vs).set v none
theorem Rel.wipe {K : PySem.W.Frag} {H : Hp} {σ : L2.St} {δ : Dl} (R : Rel K H σ δ) : ∀ vs : List Nat, Rel K H (L2.wipe σ vs) (wipeD δ vs)
  | [] => R
  | v :: vs => by
    have q := R.wipe vs
    refine ⟨by unfold L2.wipe wipeD; rw [List.length_set, List.length_set]; exact q.len, fun j b h => ?_⟩
    unfold wipeD at h
    unfold L2.wipe
    by_cases e : v = j
    · subst e
      by_cases hv : v < (wipeD δ vs).length
      · rw [List.getElem?_set_self hv] at h
        cases h
      · rw [List.getElem?_eq_none (by rw [List.length_set]; omega)] at h
        cases h
    · rw [List.getElem?_set_ne e] at h ⊢
      exact q.get j b h

/-! ### judgements -/
abbrev DV := AV → Mu → Prop
abbrev DEx := Dl → Mu → DV → Prop
abbrev DTx := Dl → Mu → (Bool → Mu → Prop) → Prop
abbrev DAx := Dl → Mu → (List AV → Mu → Prop) → Prop
/-- what follows, by values and heap, from what follows by data -/
def Cont (K : PySem.W.Frag) (H : Hp) (μ : Mu) (P : DV) (Q : VK) : Prop :=
  ∀ v H' a μ', Same (hid H μ) (hid H' μ') → HM K H' μ' → RelA K (hid H' μ') v a → P a μ' → Q v H'
theorem Cont.from {K : PySem.W.Frag} {H H1 : Hp} {μ μ1 : Mu} {P : DV} {Q : VK} (c : Cont K H μ P Q) (e : Same (hid H μ) (hid H1 μ1)) : Cont K H1 μ1 P Q :=
  fun v H' a μ' s h r p => c v H' a μ' (e.trans s) h r p
theorem Cont.here {K : PySem.W.Frag} {H : Hp} {μ : Mu} {P : DV} {Q : VK} (c : Cont K H μ P Q) (h : HM K H μ) {v : V} {a : AV} (r : RelA K (hid H μ) v a) (p : P a μ) : Q v H := c v H a μ (Same.refl _) h r p
/-- .. at a new object that never changes -/
theorem Cont.new {K : PySem.W.Frag} {H : Hp} {μ : Mu} {P : DV} {Q : VK} (c : Cont K H μ P Q) (h : HM K H μ) {p : Addr} (n : H p = none) {o : HO} {a : AV} (r : RelA K (hid (upd H p o) μ) (.ref p) a) (q : P a μ) : Q (.ref p) (upd H p o) :=
  c _ _ a μ (hid_new h n o) (h.new n o) r q
theorem rel_lst {K : PySem.W.Frag} {H : Hp} {μ : Mu} (h : HM K H μ) {p : Addr} (n : H p = none) {xs : List V} {ds : List PyData} (r : DpAll K0 (hid H μ) xs ds) : RelA K (hid (upd H p (.lst xs)) μ) (.ref p) (.dat (.list ds)) :=
  .lst (.inl (.inl (by rw [hid_none (h.ne n)]; exact upd_same))) (dpAll_mono (hid_new h n _) r)
theorem rel_tup {K : PySem.W.Frag} {H : Hp} {μ : Mu} (h : HM K H μ) {p : Addr} (n : H p = none) {xs : List V} {ds : List PyData} (r : DpAll K0 (hid H μ) xs ds) : RelA K (hid (upd H p (.tup xs)) μ) (.ref p) (.dat (.tuple ds)) :=
  .tup (.inl (.inl (by rw [hid_none (h.ne n)]; exact upd_same))) (dpAll_mono (hid_new h n _) r)
def SE (K : PySem.W.Frag) (t : TE) (M : DEx) : Prop := ∀ σ H Q δ μ P, Rel K (hid H μ) σ δ → HM K H μ → M δ μ P → Cont K H μ P Q → t σ H Q
def ST (K : PySem.W.Frag) (t : TT) (M : DTx) : Prop := ∀ σ H (Q : Bool → Hp → Prop) δ μ P, Rel K (hid H μ) σ δ → HM K H μ → M δ μ P → (∀ b H' μ', Same (hid H μ) (hid H' μ') → HM K H' μ' → P b μ' → Q b H') → t σ H Q
def SA (K : PySem.W.Frag) (t : TA) (M : DAx) : Prop := ∀ σ H (Q : List V → Hp → Prop) δ μ P, Rel K (hid H μ) σ δ → HM K H μ → M δ μ P → (∀ vs H' as μ', Same (hid H μ) (hid H' μ') → HM K H' μ' → RelAs K (hid H' μ') vs as → P as μ' → Q vs H') → t σ H Q
structure DE (X : Cx) (e : Expr) (t : TE) (M : DEx) : Prop where
  pe : PE X e t
  se : SE X.K t M
structure DT (X : Cx) (e : Expr) (t : TT) (M : DTx) : Prop where
  pt : PT X e t
  st : ST X.K t M
structure DW (X : Cx) (e : Expr) (t : TT) (M : DTx) : Prop where
  pw : PW X e t
  st : ST X.K t M
theorem DW.dt {X : Cx} {e : Expr} {t : TT} {M : DTx} (h : DW X e t M) : DT X e t M := ⟨h.pw.pt, h.st⟩
structure DA (X : Cx) (es : List Expr) (t : TA) (M : DAx) : Prop where
  pa : PA X es t
  sa : SA X.K t M
/-- an operation on two values -/
abbrev DO2 := AV → AV → Mu → DV → Prop
def SO2 (K : PySem.W.Frag) (r : R2) (d : DO2) : Prop := ∀ x y H Q a b μ P, HM K H μ → RelA K (hid H μ) x a → RelA K (hid H μ) y b → d a b μ P → Cont K H μ P Q → r x y H Q
abbrev DO1 := AV → Mu → DV → Prop
def SO1 (K : PySem.W.Frag) (r : V → Hp → VK → Prop) (d : DO1) : Prop := ∀ x H Q a μ P, HM K H μ → RelA K (hid H μ) x a → d a μ P → Cont K H μ P Q → r x H Q
abbrev DOs := List AV → Mu → DV → Prop
def SOs (K : PySem.W.Frag) (r : List V → Hp → VK → Prop) (d : DOs) : Prop := ∀ xs H Q as μ P, HM K H μ → RelAs K (hid H μ) xs as → d as μ P → Cont K H μ P Q → r xs H Q

section
variable {X : Cx} {a b c : Expr} {ta tb tc : TE} {Ma Mb Mc : DEx} {pos : Pos} {es : List Expr} {t : TA} {MA : DAx}
def mVar (i : Nat) : DEx := fun δ μ P => ∃ v, δ[i]? = some (some v) ∧ P v μ
theorem de_var {i : Nat} {e : Expr} (h : PE X e (tVar i)) : DE X e (tVar i) (mVar i) :=
  ⟨h, fun σ H Q δ μ P R hm ⟨a, e, p⟩ c => let ⟨v, e1, r⟩ := R.get i a e; ⟨v, e1, c.here hm r p⟩⟩
def mC (d : PyData) : DEx := fun _ μ P => P (.dat d) μ
theorem de_int {i j} : DE X (.Constant (.int i) j pos) (tC (.int i)) (mC (.int i)) := ⟨pe_int, fun _ _ _ _ _ _ _ hm p c => c.here hm (rI i) p⟩
theorem de_bl {i j} : DE X (.Constant (.bool i) j pos) (tC (.bl i)) (mC (.bool i)) := ⟨pe_bl, fun _ _ _ _ _ _ _ hm p c => c.here hm (rB i) p⟩
theorem de_non {j} : DE X (.Constant .none j pos) (tC .non) (mC .none) := ⟨pe_non, fun _ _ _ _ _ _ _ hm p c => c.here hm rN p⟩
theorem de_str {i j} : DE X (.Constant (.str i) j pos) (tC (.str i)) (mC (.str i)) := ⟨pe_str, fun _ _ _ _ _ _ _ hm p c => c.here hm (rS i) p⟩
/-- a module's constant -/
theorem de_globI {e : Expr} {i : Int} (h : PE X e (tC (.int i))) : DE X e (tC (.int i)) (mC (.int i)) := ⟨h, fun _ _ _ _ _ _ _ hm p c => c.here hm (rI i) p⟩
theorem de_globS {e : Expr} {i : Str} (h : PE X e (tC (.str i))) : DE X e (tC (.str i)) (mC (.str i)) := ⟨h, fun _ _ _ _ _ _ _ hm p c => c.here hm (rS i) p⟩
def mCls (n : String) : DEx := fun _ μ P => P (.cls n) μ
theorem de_cls {e : Expr} {i : String} (h : PE X e (tC (.ty i))) : DE X e (tC (.ty i)) (mCls i) := ⟨h, fun _ _ _ _ _ _ _ hm p c => c.here hm (a := .cls i) rfl p⟩
def mOp (d : DO2) (Ma Mb : DEx) : DEx := fun δ μ P => Ma δ μ fun x μ1 => Mb δ μ1 fun y μ2 => d x y μ2 P
theorem se_op {K : PySem.W.Frag} {r : R2} {d : DO2} (hd : SO2 K r d) (ha : SE K ta Ma) (hb : SE K tb Mb) : SE K (tOp r ta tb) (mOp d Ma Mb) := fun σ H Q δ μ P R hm m c =>
  ha σ H _ δ μ _ R hm m fun x H1 av μ1 e1 hm1 r1 m1 => hb σ H1 _ δ μ1 _ (R.mono e1) hm1 m1 fun y H2 bv μ2 e2 hm2 r2 m2 => hd x y H2 Q av bv μ2 P hm2 (relA_mono e2 r1) r2 m2 (c.from (e1.trans e2))
theorem de_op {op : Operator} {r : R2} {d : DO2} (ho : OpR X (binaryOp op) r) (hd : SO2 X.K r d) (ha : DE X a ta Ma) (hb : DE X b tb Mb) : DE X (.BinOp a op b pos) (tOp r ta tb) (mOp d Ma Mb) := ⟨pe_op ho ha.pe hb.pe, se_op hd ha.se hb.se⟩
theorem de_cmp {op : CmpOp} {r : R2} {d : DO2} (ho : OpR X (compareOp op) r) (hd : SO2 X.K r d) (ha : DE X a ta Ma) (hb : DE X b tb Mb) (hm : behindInMarks op b = false := by first | exact nobehind _ (by decide) (by decide) | rfl) : DE X (.Compare a [op] [b] pos) (tOp r ta tb) (mOp d Ma Mb) := ⟨pe_cmpR ho ha.pe hb.pe hm, se_op hd ha.se hb.se⟩
def mUn (d : DO1) (Ma : DEx) : DEx := fun δ μ P => Ma δ μ fun x μ1 => d x μ1 P
theorem se_un {K : PySem.W.Frag} {r : V → Hp → VK → Prop} {d : DO1} (hd : SO1 K r d) (ha : SE K ta Ma) : SE K (tUn r ta) (mUn d Ma) := fun σ H Q δ μ P R hm m c =>
  ha σ H _ δ μ _ R hm m fun x H1 av μ1 e1 hm1 r1 m1 => hd x H1 Q av μ1 P hm1 r1 m1 (c.from e1)
theorem de_un {op : UnaryOp} {r : V → Hp → VK → Prop} {d : DO1} (ho : UnR X (unaryOp op) r) (hd : SO1 X.K r d) (ha : DE X a ta Ma) : DE X (.UnaryOp op a pos) (tUn r ta) (mUn d Ma) := ⟨pe_un ho ha.pe, se_un hd ha.se⟩
/-- a < b < c, both comparisons data to truth -/
def mChain (d d' : DO2) (Ma Mb Mc : DEx) : DEx := fun δ μ P => Ma δ μ fun x μ1 => Mb δ μ1 fun y μ2 => d x y μ2 fun z μ3 => ∃ k, z = .dat (.bool k) ∧ (if k = true then Mc δ μ3 fun w μ4 => d' y w μ4 P else P (.dat (.bool false)) μ3)
theorem dp_bl {K : PySem.W.Frag} {H : Hp} {v : V} {k : Bool} (h : RelA K H v (.dat (.bool k))) : v = .bl k := by
  cases h
  rfl
theorem dp_int {K : PySem.W.Frag} {H : Hp} {v : V} {k : Int} (h : RelA K H v (.dat (.int k))) : v = .int k := by
  cases h
  rfl
theorem dp_str {K : PySem.W.Frag} {H : Hp} {v : V} {k : Str} (h : RelA K H v (.dat (.str k))) : v = .str k := by
  cases h
  rfl
theorem dp_non {K : PySem.W.Frag} {H : Hp} {v : V} (h : RelA K H v (.dat .none)) : v = .non := by
  cases h
  rfl
theorem dp_list {K : PySem.W.Frag} {H : Hp} {v : V} {ds : List PyData} (h : RelA K H v (.dat (.list ds))) : ∃ a xs, v = .ref a ∧ Rd H a (.lst xs) ∧ DpAll K0 H xs ds := by
  cases h with
  | lst h1 h2 => exact ⟨_, _, rfl, k0_lst h1, h2⟩
theorem dp_tuple {K : PySem.W.Frag} {H : Hp} {v : V} {ds : List PyData} (h : RelA K H v (.dat (.tuple ds))) : ∃ a xs, v = .ref a ∧ Rd H a (.tup xs) ∧ DpAll K0 H xs ds := by
  cases h with
  | tup h1 h2 => exact ⟨_, _, rfl, k0_tup h1, h2⟩
theorem se_chain {K : PySem.W.Frag} {r r' : R2} {d d' : DO2} (hd : SO2 K r d) (hd' : SO2 K r' d') (ha : SE K ta Ma) (hb : SE K tb Mb) (hc : SE K tc Mc) : SE K (tChain r r' ta tb tc) (mChain d d' Ma Mb Mc) := fun σ H Q δ μ P R hm m c =>
  ha σ H _ δ μ _ R hm m fun x H1 av μ1 e1 hm1 r1 m1 => hb σ H1 _ δ μ1 _ (R.mono e1) hm1 m1 fun y H2 bv μ2 e2 hm2 r2 m2 => hd x y H2 _ av bv μ2 _ hm2 (relA_mono e2 r1) r2 m2 fun z H3 zv μ3 e3 hm3 r3 ⟨k, ez, m3⟩ => by
    subst ez
    have q := dp_bl r3
    subst q
    refine ⟨k, rfl, ?_⟩
    cases k with
    | true => exact hc σ H3 _ δ μ3 _ (R.mono ((e1.trans e2).trans e3)) hm3 m3 fun w H4 wv μ4 e4 hm4 r4 m4 => hd' y w H4 Q bv wv μ4 P hm4 (relA_mono (e3.trans e4) r2) r4 m4 (c.from (((e1.trans e2).trans e3).trans e4))
    | false => exact (c.from ((e1.trans e2).trans e3)).here hm3 (rB false) m3
theorem de_chain {op op' : CmpOp} {r r' : R2} {d d' : DO2} (ho : OpR X (compareOp op) r) (ho' : OpR X (compareOp op') r') (hd : SO2 X.K r d) (hd' : SO2 X.K r' d') (ha : DE X a ta Ma) (hb : DE X b tb Mb) (hc : DE X c tc Mc) (hm : lastMarks [op, op'] [b, c] = false := by with_unfolding_all rfl) :
    DE X (.Compare a [op, op'] [b, c] pos) (tChain r r' ta tb tc) (mChain d d' Ma Mb Mc) := ⟨pe_chain ho ho' ha.pe hb.pe hc.pe hm, se_chain hd hd' ha.se hb.se hc.se⟩
/-- and, or, not as values (all but the last truths) -/
def mAnd (Ma Mb : DEx) : DEx := fun δ μ P => Ma δ μ fun x μ1 => ∃ k, x = .dat (.bool k) ∧ if k = true then Mb δ μ1 P else P (.dat (.bool false)) μ1
def mOr (Ma Mb : DEx) : DEx := fun δ μ P => Ma δ μ fun x μ1 => ∃ k, x = .dat (.bool k) ∧ if k = true then P (.dat (.bool true)) μ1 else Mb δ μ1 P
def mNot (Ma : DEx) : DEx := fun δ μ P => Ma δ μ fun x μ1 => ∃ k, x = .dat (.bool k) ∧ P (.dat (.bool !k)) μ1
theorem de_one {op} (h : DE X a ta Ma) : DE X (.BoolOp op [a] pos) ta Ma := ⟨pe_one h.pe, h.se⟩
theorem de_and {rest : List Expr} (ha : DE X a ta Ma) (hb : DE X (.BoolOp .And (b :: rest) pos) tb Mb) : DE X (.BoolOp .And (a :: b :: rest) pos) (tAndV ta tb) (mAnd Ma Mb) := ⟨pe_and ha.pe hb.pe, fun σ H Q δ μ P R hm m c =>
  ha.se σ H _ δ μ _ R hm m fun x H1 av μ1 e1 hm1 r1 ⟨k, ex, m1⟩ => by
    subst ex
    refine ⟨k, dp_bl r1, ?_⟩
    cases k with
    | true => exact hb.se σ H1 Q δ μ1 P (R.mono e1) hm1 m1 (c.from e1)
    | false => exact (c.from e1).here hm1 (rB false) m1⟩
theorem de_or {rest : List Expr} (ha : DE X a ta Ma) (hb : DE X (.BoolOp .Or (b :: rest) pos) tb Mb) : DE X (.BoolOp .Or (a :: b :: rest) pos) (tOrV ta tb) (mOr Ma Mb) := ⟨pe_or ha.pe hb.pe, fun σ H Q δ μ P R hm m c =>
  ha.se σ H _ δ μ _ R hm m fun x H1 av μ1 e1 hm1 r1 ⟨k, ex, m1⟩ => by
    subst ex
    refine ⟨k, dp_bl r1, ?_⟩
    cases k with
    | false => exact hb.se σ H1 Q δ μ1 P (R.mono e1) hm1 m1 (c.from e1)
    | true => exact (c.from e1).here hm1 (rB true) m1⟩
theorem de_not (ha : DE X a ta Ma) : DE X (.UnaryOp .Not a pos) (tNotV ta) (mNot Ma) := ⟨pe_not ha.pe, fun σ H Q δ μ P R hm m c =>
  ha.se σ H _ δ μ _ R hm m fun x H1 av μ1 e1 hm1 r1 ⟨k, ex, m1⟩ => by
    subst ex
    exact ⟨k, dp_bl r1, (c.from e1).here hm1 (rB _) m1⟩⟩
/-! tests -/
def mTest (Ma : DEx) : DTx := fun δ μ P => Ma δ μ fun x μ1 => ∃ k, x = .dat (.bool k) ∧ P k μ1
theorem st_val {K : PySem.W.Frag} (h : SE K ta Ma) : ST K (tB ta) (mTest Ma) := fun σ H Q δ μ P R hm m c =>
  h σ H _ δ μ _ R hm m fun x H1 av μ1 e1 hm1 r1 ⟨k, ex, m1⟩ => by
    subst ex
    exact ⟨k, dp_bl r1, c k H1 μ1 e1 hm1 m1⟩
theorem dt_val (h : DE X a ta Ma) (he : ∀ whole, isTrue a X.env whole = (do let v ← whole; standAt a.pos; holding [v] (truthy v)) := by intro _; rfl) : DT X a (tB ta) (mTest Ma) := ⟨pt_val h.pe he, st_val h.se⟩
theorem dt_cmp {op : CmpOp} {r : R2} {d : DO2} (ho : OpR X (compareOp op) r) (hd : SO2 X.K r d) (ha : DE X a ta Ma) (hb : DE X b tb Mb) (hm : behindInMarks op b = false := by first | exact nobehind _ (by decide) (by decide) | rfl) : DT X (.Compare a [op] [b] pos) (tTest (tOp r ta tb)) (mTest (mOp d Ma Mb)) := ⟨pt_cmpR ho ha.pe hb.pe hm, st_val (se_op hd ha.se hb.se)⟩
theorem dt_chain {op op' : CmpOp} {r r' : R2} {d d' : DO2} (ho : OpR X (compareOp op) r) (ho' : OpR X (compareOp op') r') (hd : SO2 X.K r d) (hd' : SO2 X.K r' d') (ha : DE X a ta Ma) (hb : DE X b tb Mb) (hc : DE X c tc Mc) (hm : lastMarks [op, op'] [b, c] = false := by with_unfolding_all rfl) :
    DT X (.Compare a [op, op'] [b, c] pos) (tTest (tChain r r' ta tb tc)) (mTest (mChain d d' Ma Mb Mc)) := ⟨pt_chain ho ho' ha.pe hb.pe hc.pe hm, st_val (se_chain hd hd' ha.se hb.se hc.se)⟩
variable {tA tB' : TT} {MT MT' : DTx} {rest : List Expr}
def mTAnd (M M' : DTx) : DTx := fun δ μ P => M δ μ fun k μ1 => if k = true then M' δ μ1 P else P false μ1
def mTOr (M M' : DTx) : DTx := fun δ μ P => M δ μ fun k μ1 => if k = true then P true μ1 else M' δ μ1 P
def mTNot (M : DTx) : DTx := fun δ μ P => M δ μ fun k μ1 => P (!k) μ1
theorem dw_and1 (ha : DT X a tA MT) : DW X (.BoolOp .And [a] pos) tA MT := ⟨pw_and1 ha.pt, ha.st⟩
theorem dw_or1 (ha : DT X a tA MT) : DW X (.BoolOp .Or [a] pos) tA MT := ⟨pw_or1 ha.pt, ha.st⟩
theorem dw_and (ha : DT X a tA MT) (hb : DW X (.BoolOp .And (b :: rest) pos) tB' MT') : DW X (.BoolOp .And (a :: b :: rest) pos) (tAnd tA tB') (mTAnd MT MT') := ⟨pw_and ha.pt hb.pw, fun σ H Q δ μ P R hm m c =>
  ha.st σ H _ δ μ _ R hm m fun k H1 μ1 e1 hm1 m1 => by
    cases k with
    | true => exact hb.st σ H1 Q δ μ1 P (R.mono e1) hm1 m1 fun b H2 μ2 e2 => c b H2 μ2 (e1.trans e2)
    | false => exact c false H1 μ1 e1 hm1 m1⟩
theorem dw_or (ha : DT X a tA MT) (hb : DW X (.BoolOp .Or (b :: rest) pos) tB' MT') : DW X (.BoolOp .Or (a :: b :: rest) pos) (tOr tA tB') (mTOr MT MT') := ⟨pw_or ha.pt hb.pw, fun σ H Q δ μ P R hm m c =>
  ha.st σ H _ δ μ _ R hm m fun k H1 μ1 e1 hm1 m1 => by
    cases k with
    | false => exact hb.st σ H1 Q δ μ1 P (R.mono e1) hm1 m1 fun b H2 μ2 e2 => c b H2 μ2 (e1.trans e2)
    | true => exact c true H1 μ1 e1 hm1 m1⟩
theorem dt_not (ha : DT X a tA MT) : DT X (.UnaryOp .Not a pos) (tNot tA) (mTNot MT) := ⟨pt_not ha.pt, fun σ H Q δ μ P R hm m c => ha.st σ H _ δ μ _ R hm m fun k H1 μ1 e1 hm1 m1 => c _ H1 μ1 e1 hm1 m1⟩
def mIf (MT : DTx) (Ma Mb : DEx) : DEx := fun δ μ P => MT δ μ fun k μ1 => if k = true then Ma δ μ1 P else Mb δ μ1 P
theorem de_if {g : Expr} (hg : DT X g tA MT) (ha : DE X a ta Ma) (hb : DE X b tb Mb) : DE X (.IfExp g a b pos) (tIf tA ta tb) (mIf MT Ma Mb) := ⟨pe_ifExp hg.pt ha.pe hb.pe, fun σ H Q δ μ P R hm m c =>
  hg.st σ H _ δ μ _ R hm m fun k H1 μ1 e1 hm1 m1 => by
    cases k with
    | true => exact ha.se σ H1 Q δ μ1 P (R.mono e1) hm1 m1 (c.from e1)
    | false => exact hb.se σ H1 Q δ μ1 P (R.mono e1) hm1 m1 (c.from e1)⟩
/-! arguments, displays -/
def mNil : DAx := fun _ μ P => P [] μ
def mCons (Ma : DEx) (MA : DAx) : DAx := fun δ μ P => Ma δ μ fun x μ1 => MA δ μ1 fun xs μ2 => P (x :: xs) μ2
theorem da_nil : DA X [] tNil mNil := ⟨pa_nil, fun _ H _ _ μ _ _ hm m c => c [] H [] μ (Same.refl _) hm .nil m⟩
theorem da_cons (ha : DE X a ta Ma) (h : DA X es t MA) (hs : starEach (a :: es) X.env = (false, eval a X.env) :: starEach es X.env := by rfl) : DA X (a :: es) (tCons ta t) (mCons Ma MA) := ⟨pa_cons ha.pe h.pa hs, fun σ H Q δ μ P R hm m c =>
  ha.se σ H _ δ μ _ R hm m fun x H1 av μ1 e1 hm1 r1 m1 => h.sa σ H1 _ δ μ1 _ (R.mono e1) hm1 m1 fun xs H2 as μ2 e2 hm2 r2 m2 => c (x :: xs) H2 (av :: as) μ2 (e1.trans e2) hm2 (.cons (relA_mono e2 r1) r2) m2⟩
/-- all data -/
def asD : List AV → Option (List PyData)
  | [] => some []
  | .dat d :: r => (asD r).map (d :: ·)
  | _ => none
theorem asD_eq : ∀ {as : List AV} {ds : List PyData}, asD as = some ds → as = ds.map AV.dat
  | [], _, h => by simp only [asD, Option.some.injEq] at h; subst h; rfl
  | .dat d :: r, ds, h => by
    simp only [asD] at h
    cases e : asD r with
    | none => rw [e] at h; cases h
    | some es =>
      rw [e] at h
      cases h
      rw [asD_eq e]
      rfl
  | .mut _ :: _, _, h => by simp [asD] at h
  | .cls _ :: _, _, h => by simp [asD] at h
  | .raw _ :: _, _, h => by simp [asD] at h
theorem asD_map : ∀ ds : List PyData, asD (ds.map AV.dat) = some ds
  | [] => rfl
  | d :: ds => by simp only [List.map_cons, asD, asD_map ds, Option.map_some]
def mTup (MA : DAx) : DEx := fun δ μ P => MA δ μ fun as μ1 => ∃ ds, asD as = some ds ∧ ds.length ≤ sizeLine ∧ P (.dat (.tuple ds)) μ1
theorem de_tup {x1} (h : DA X es t MA) : DE X (.Tuple es x1 pos) (tTup t) (mTup MA) := ⟨pe_tup h.pa, fun σ H Q δ μ P R hm m c =>
  h.sa σ H _ δ μ _ R hm m fun xs H1 as μ1 e1 hm1 r1 ⟨ds, ea, hz, m1⟩ => by
    rw [asD_eq ea] at r1
    have r := relAs_dat.mpr r1
    exact ⟨by rw [dpAll_len r]; exact hz, fun p n => (c.from e1).new hm1 n (rel_tup hm1 n r) m1⟩⟩
def mLst (MA : DAx) : DEx := fun δ μ P => MA δ μ fun as μ1 => ∃ ds, asD as = some ds ∧ ds.length ≤ sizeLine ∧ P (.dat (.list ds)) μ1
theorem de_lst (h : DA X es t MA) : DE X (.List es pos) (tLst t) (mLst MA) := ⟨pe_lst h.pa, fun σ H Q δ μ P R hm m c =>
  h.sa σ H _ δ μ _ R hm m fun xs H1 as μ1 e1 hm1 r1 ⟨ds, ea, hz, m1⟩ => by
    rw [asD_eq ea] at r1
    have r := relAs_dat.mpr r1
    exact ⟨by rw [dpAll_len r]; exact hz, fun p n => (c.from e1).new hm1 n (rel_lst hm1 n r) m1⟩⟩
theorem paired_len {α β : Type} {R : α → β → Prop} {xs : List α} {ys : List β} (h : Paired R xs ys) : xs.length = ys.length := Paired.length h
/-- a list that may change -/
def mLstM (MA : DAx) : DEx := fun δ μ P => MA δ μ fun as μ1 => as.length ≤ sizeLine ∧ ∀ p, μ1 p = none → P (.mut p) (mset μ1 p (some (.lst as)))
theorem dm_lst (h : DA X es t MA) : DE X (.List es pos) (tLst t) (mLstM MA) := ⟨pe_lst h.pa, fun σ H Q δ μ P R hm m c =>
  h.sa σ H _ δ μ _ R hm m fun xs H1 as μ1 e1 hm1 r1 ⟨hz, m1⟩ => ⟨by rw [paired_len r1]; exact hz, fun p n => by
    have hp : hid H1 μ1 p = none := by rw [hid_none (hm1.ne n)]; exact n
    refine c _ _ (.mut p) (mset μ1 p (some (.lst as))) ?_ (hm1.store hp r1) rfl (m1 p (hm1.ne n))
    rw [hid_store hp]
    exact e1⟩⟩
/-- what was a cell is data from now on -/
def mFrz (Ma : DEx) : DEx := fun δ μ P => Ma δ μ fun x μ1 => ∃ p ds, x = .mut p ∧ μ1 p = some (.lst (ds.map AV.dat)) ∧ P (.dat (.list ds)) (mset μ1 p none)
theorem de_frz (h : DE X a ta Ma) : DE X a ta (mFrz Ma) := ⟨h.pe, fun σ H Q δ μ P R hm m c =>
  h.se σ H _ δ μ _ R hm m fun x H1 av μ1 e1 hm1 r1 ⟨p, ds, ea, hp, m1⟩ => by
    subst ea
    cases (show x = .ref p from r1)
    exact c _ _ (.dat (.list ds)) (mset μ1 p none) (e1.trans (hid_freeze p)) (hm1.freeze p) (dp_freeze hm1 hp) m1⟩
/-- a cell that nobody changes any more is left out of sight -/
def mDrp (Ma : DEx) : DEx := fun δ μ P => Ma δ μ fun x μ1 => ∃ p : Addr, P x (mset μ1 p none)
theorem de_drp (h : DE X a ta Ma) : DE X a ta (mDrp Ma) := ⟨h.pe, fun σ H Q δ μ P R hm m c =>
  h.se σ H _ δ μ _ R hm m fun x H1 av μ1 e1 hm1 r1 ⟨p, m1⟩ => c _ _ av (mset μ1 p none) (e1.trans (hid_freeze p)) (hm1.freeze p) (relA_mono (hid_freeze p) r1) m1⟩
/-! calls -/
def mCall (d : DOs) (MA : DAx) : DEx := fun δ μ P => MA δ μ fun as μ1 => d as μ1 P
theorem se_args {K : PySem.W.Frag} {r : List V → Hp → VK → Prop} {d : DOs} (hd : SOs K r d) (h : SA K t MA) : SE K (fun σ H Q => t σ H fun vs H1 => r vs H1 Q) (mCall d MA) := fun σ H Q δ μ P R hm m c =>
  h σ H _ δ μ _ R hm m fun xs H1 as μ1 e1 hm1 r1 m1 => hd xs H1 Q as μ1 P hm1 r1 m1 (c.from e1)
theorem de_callB {x : Str} {id' : String} {p : Pos} {r : List V → Hp → VK → Prop} {d : DOs} (hc : CallR X (.builtin id') r) (hd : SOs X.K r d) (hg : Gl X x) (hm : X.mg x = none) (hv : bootBuiltins x = some (.builtin id')) (h : DA X (a :: es) t MA)
    (hn : x ≠ "__name__" := by decide) (hdb : (x == ("__debug__" : Str)) = false := by decide) (he : starEach (a :: es) X.env = (false, eval a X.env) :: starEach es X.env := by rfl) (hpl : (backTo pos (starEach es X.env)).any (·.1) = false := by rfl) :
    DE X (.Call (.Name x p) (a :: es) [] pos) (tCB r t) (mCall d MA) := ⟨pe_callB hc hg hm hv h.pa hn hdb he hpl, se_args hd h.sa⟩
theorem de_callTy {x : Str} {T : String} {p : Pos} {r : List V → Hp → VK → Prop} {d : DOs} (hc : CallR X (.type T) r) (hd : SOs X.K r d) (hg : Gl X x) (hm : X.mg x = none) (hv : bootBuiltins x = some (.type T)) (h : DA X (a :: es) t MA)
    (hn : x ≠ "__name__" := by decide) (hdb : (x == ("__debug__" : Str)) = false := by decide) (he : starEach (a :: es) X.env = (false, eval a X.env) :: starEach es X.env := by rfl) (hpl : (backTo pos (starEach es X.env)).any (·.1) = false := by rfl) :
    DE X (.Call (.Name x p) (a :: es) [] pos) (tCB r t) (mCall d MA) := ⟨pe_callTy hc hg hm hv h.pa hn hdb he hpl, se_args hd h.sa⟩
/-- a def's promise by data -/
def spOf (K : PySem.W.Frag) (n : Nat) (d : DOs) : List V → Hp → VK → Prop := fun vs H Q => vs.length = n ∧ ∃ as μ P, HM K H μ ∧ RelAs K (hid H μ) vs as ∧ d as μ P ∧ Cont K H μ P Q
theorem so_of {K : PySem.W.Frag} {n : Nat} {d : DOs} (hl : ∀ as μ P, d as μ P → as.length = n) : SOs K (spOf K n d) d := fun xs H Q as μ P hm r m c => ⟨(paired_len r).trans (hl _ _ _ m), as, μ, P, hm, r, m, c⟩
end
end DL

namespace DL
open PySem PySem.Spec PyProof.Rows L2
section
variable {X : Cx} {K : PySem.W.Frag}
/-! ### operations on data -/
/-- ints in, an int out, under C -/
def oII (C : Int → Int → Prop) (g : Int → Int → Int) : DO2 := fun a b μ P => ∃ i j, a = .dat (.int i) ∧ b = .dat (.int j) ∧ C i j ∧ P (.dat (.int (g i j))) μ
def oII0 (g : Int → Int → Int) : DO2 := fun a b μ P => ∃ i j, a = .dat (.int i) ∧ b = .dat (.int j) ∧ P (.dat (.int (g i j))) μ
def oIB (g : Int → Int → Bool) : DO2 := fun a b μ P => ∃ i j, a = .dat (.int i) ∧ b = .dat (.int j) ∧ P (.dat (.bool (g i j))) μ
theorem so_II {C : Int → Int → Prop} {g : Int → Int → Int} : SO2 K (L2.rI C fun i j => .int (g i j)) (oII C g) := fun x y H Q a b μ P hm rx ry ⟨i, j, e1, e2, hC, p⟩ c => by
  subst e1 e2
  exact ⟨i, j, dp_int rx, dp_int ry, hC, c.here hm (rI _) p⟩
theorem so_II0 {g : Int → Int → Int} : SO2 K (rI0 fun i j => .int (g i j)) (oII0 g) := fun x y H Q a b μ P hm rx ry ⟨i, j, e1, e2, p⟩ c => by
  subst e1 e2
  exact ⟨i, j, dp_int rx, dp_int ry, c.here hm (rI _) p⟩
theorem so_IB {g : Int → Int → Bool} : SO2 K (rI0 fun i j => .bl (g i j)) (oIB g) := fun x y H Q a b μ P hm rx ry ⟨i, j, e1, e2, p⟩ c => by
  subst e1 e2
  exact ⟨i, j, dp_int rx, dp_int ry, c.here hm (rB _) p⟩
abbrev oAdd := oII0 fun i j => i + j
abbrev oSub := oII0 fun i j => i - j
abbrev oMul := oII CMulW fun i j => i * j
abbrev oDiv := oII CDivW fun i j => i / j
abbrev oMod := oII (fun _ j => 0 < j) fun i j => i % j
abbrev oPow := oII CPow fun i j => i ^ j.toNat
abbrev oLt := oIB fun i j => decide (i < j)
abbrev oLe := oIB fun i j => decide (i ≤ j)
abbrev oGt := oIB fun i j => decide (j < i)
abbrev oGe := oIB fun i j => decide (j ≤ i)
def oNeg : DO1 := fun a μ P => ∃ i, a = .dat (.int i) ∧ P (.dat (.int (-i))) μ
theorem so_neg : SO1 K (rU fun i => .int (-i)) oNeg := fun x H Q a μ P hm rx ⟨i, e1, p⟩ c => by
  subst e1
  exact ⟨i, dp_int rx, c.here hm (rI _) p⟩
/-- == of two of one scalar kind -/
def eqD : PyData → PyData → Option Bool
  | .int i, .int j => some (decide (i = j))
  | .bool i, .bool j => some (decide (i = j))
  | .str i, .str j => some (decide (i = j))
  | _, _ => none
def oEq : DO2 := fun a b μ P => ∃ x y k, a = .dat x ∧ b = .dat y ∧ eqD x y = some k ∧ P (.dat (.bool k)) μ
def oNe : DO2 := fun a b μ P => ∃ x y k, a = .dat x ∧ b = .dat y ∧ eqD x y = some k ∧ P (.dat (.bool !k)) μ
theorem eq_vals {H : Hp} {x y : V} {a b : PyData} {k : Bool} (rx : RelA K H x (.dat a)) (ry : RelA K H y (.dat b)) (e : eqD a b = some k) : scal x y = true ∧ decide (x = y) = k := by
  cases a <;> cases b <;> simp only [eqD, Option.some.injEq, reduceCtorEq] at e <;> subst e
  · rw [dp_bl rx, dp_bl ry]; exact ⟨rfl, by simp⟩
  · rw [dp_int rx, dp_int ry]; exact ⟨rfl, by simp⟩
  · rw [dp_str rx, dp_str ry]; exact ⟨rfl, by simp⟩
theorem so_eq : SO2 K rEq oEq := fun x y H Q a b μ P hm rx ry ⟨d, e, k, e1, e2, ek, p⟩ c => by
  subst e1 e2
  obtain ⟨h1, h2⟩ := eq_vals rx ry ek
  exact ⟨h1, by rw [h2]; exact c.here hm (rB _) p⟩
theorem so_ne : SO2 K rNe oNe := fun x y H Q a b μ P hm rx ry ⟨d, e, k, e1, e2, ek, p⟩ c => by
  subst e1 e2
  obtain ⟨h1, h2⟩ := eq_vals rx ry ek
  exact ⟨h1, by rw [h2]; exact c.here hm (rB _) p⟩
/-! texts -/
def oSS (g : Str → Str → Bool) : DO2 := fun a b μ P => ∃ i j, a = .dat (.str i) ∧ b = .dat (.str j) ∧ P (.dat (.bool (g i j))) μ
theorem so_SS {g : Str → Str → Bool} : SO2 K (fun x y H Q => ∃ i j, x = .str i ∧ y = .str j ∧ Q (.bl (g i j)) H) (oSS g) := fun x y H Q a b μ P hm rx ry ⟨i, j, e1, e2, p⟩ c => by
  subst e1 e2
  exact ⟨i, j, dp_str rx, dp_str ry, c.here hm (rB _) p⟩
abbrev ltS (i j : Str) : Bool := decide (i.cps.toList < j.cps.toList)
abbrev oLtS := oSS fun i j => decide (i.cps.toList < j.cps.toList)
abbrev oGeS := oSS fun i j => !decide (i.cps.toList < j.cps.toList)
def oSign : DO2 := fun a b μ P => ∃ (c : Nat) (z : Str), a = .dat (.str ⟨#[c]⟩) ∧ b = .dat (.str z) ∧ P (.dat (.bool (decide (c ∈ z.cps.toList)))) μ
theorem so_sign : SO2 K (fun x y H Q => ∃ (c : Nat) (z : Str), x = .str ⟨#[c]⟩ ∧ y = .str z ∧ Q (.bl (decide (c ∈ z.cps.toList))) H) oSign := fun x y H Q a b μ P hm rx ry ⟨i, j, e1, e2, p⟩ c => by
  subst e1 e2
  exact ⟨i, j, dp_str rx, dp_str ry, c.here hm (rB _) p⟩
def oAddS : DO2 := fun a b μ P => ∃ i j, a = .dat (.str i) ∧ b = .dat (.str j) ∧ i.length + j.length ≤ sizeLine ∧ P (.dat (.str (i ++ j))) μ
theorem so_addS : SO2 K (fun x y H Q => ∃ i j, x = .str i ∧ y = .str j ∧ i.length + j.length ≤ sizeLine ∧ Q (.str (i ++ j)) H) oAddS := fun x y H Q a b μ P hm rx ry ⟨i, j, e1, e2, hz, p⟩ c => by
  subst e1 e2
  exact ⟨i, j, dp_str rx, dp_str ry, hz, c.here hm (rS _) p⟩
/-- text * int, for 0 and 1 -/
def r01 : R2 := fun x y H Q => ∃ z i, x = .str z ∧ y = .int i ∧ ((i = 0 ∧ Q (.str Str.empty) H) ∨ (i = 1 ∧ z.length ≤ sizeLine ∧ Q (.str z) H))
theorem op_01 : OpR X (binaryOp .Mult) r01 := by
  intro pins s σ H x y v u Q I rx ry h
  obtain ⟨z, i, rfl, rfl, h⟩ := h
  obtain ⟨t, rfl⟩ := rx
  obtain ⟨t', rfl⟩ := ry
  rcases h with ⟨rfl, q⟩ | ⟨rfl, hz, q⟩
  · exact PySem.P.mul_str_none (by decide) (by decide) ⟨.str Str.empty, H, I.tok _, ⟨_, rfl⟩, q⟩
  · refine PySem.P.mul_str (by decide) (fun _ e => by simp at e) (fun _ e => by simp at e) ?_
    rw [if_neg (by decide), if_pos (by simp)]
    exact ⟨.str z, H, I, ⟨_, rfl⟩, q⟩
def oMul01 : DO2 := fun a b μ P => ∃ z i, a = .dat (.str z) ∧ b = .dat (.int i) ∧ ((i = 0 ∧ P (.dat (.str Str.empty)) μ) ∨ (i = 1 ∧ z.length ≤ sizeLine ∧ P (.dat (.str z)) μ))
theorem so_01 : SO2 K r01 oMul01 := fun x y H Q a b μ P hm rx ry ⟨z, i, e1, e2, h⟩ c => by
  subst e1 e2
  refine ⟨z, i, dp_str rx, dp_int ry, ?_⟩
  rcases h with ⟨e, p⟩ | ⟨e, hz, p⟩
  · exact .inl ⟨e, c.here hm (rS _) p⟩
  · exact .inr ⟨e, hz, c.here hm (rS _) p⟩
/-! lists, tuples -/
def rCatS : R2 := fun x y H Q => ∃ l b xs zs, x = .ref l ∧ y = .ref b ∧ Rd H l (.lst xs) ∧ Rd H b (.lst zs) ∧ xs.length + zs.length ≤ sizeLine ∧ ∀ p, H p = none → Q (.ref p) (upd H p (.lst (xs ++ zs)))
theorem op_catS : OpR X (binaryOp .Add) rCatS := by
  intro pins s σ H x y v u Q I rx ry h
  obtain ⟨l, b, xs, zs, rfl, rfl, hH, hB, hz, q⟩ := h
  cases rx
  cases ry
  obtain ⟨z1, its, n1, r, e1⟩ := hH.ok I.hok
  obtain ⟨z2, its2, n2, r2, e2⟩ := hB.ok I.hok
  have k1 := r.length
  have k2 := r2.length
  refine PySem.P.add_list e1 e2 ?a ?b
  case b => rw [List.size_toArray, List.size_toArray]; omega
  have ea : its.toArray ++ its2.toArray = (its ++ its2).toArray := by simp
  rw [ea]
  exact ⟨.ref _, _, I.lnew (t' := s.toks) (r.append r2) (by rw [List.length_append]; omega), rfl, q _ I.fresh⟩
def oCatL : DO2 := fun a b μ P => ∃ xs ys, a = .dat (.list xs) ∧ b = .dat (.list ys) ∧ xs.length + ys.length ≤ sizeLine ∧ P (.dat (.list (xs ++ ys))) μ
theorem so_catL : SO2 K rCatS oCatL := fun x y H Q a b μ P hm rx ry ⟨xs, ys, e1, e2, hz, p⟩ c => by
  subst e1 e2
  obtain ⟨p1, v1, rfl, h1, a1⟩ := dp_list rx
  obtain ⟨p2, v2, rfl, h2, a2⟩ := dp_list ry
  refine ⟨p1, p2, v1, v2, rfl, rfl, rd_mono (hid_same H μ) h1, rd_mono (hid_same H μ) h2, by rw [dpAll_len a1, dpAll_len a2]; exact hz, fun q n => c.new hm n (rel_lst hm n (dpAll_append a1 a2)) p⟩
def oCatT : DO2 := fun a b μ P => ∃ xs ys, a = .dat (.tuple xs) ∧ b = .dat (.tuple ys) ∧ xs.length + ys.length ≤ sizeLine ∧ P (.dat (.tuple (xs ++ ys))) μ
theorem so_catT : SO2 K (rCatA K) oCatT := fun x y H Q a b μ P hm rx ry ⟨xs, ys, e1, e2, hz, p⟩ c => by
  subst e1 e2
  have rx' := rx
  have ry' := ry
  obtain ⟨p1, v1, rfl, h1, a1⟩ := dp_tuple rx
  obtain ⟨p2, v2, rfl, h2, a2⟩ := dp_tuple ry
  have l1 := dpAll_len a1
  have l2 := dpAll_len a2
  refine ⟨p1, p2, v1, v2, rfl, rfl, (.inl (rd_mono (hid_same H μ) h1)), (.inl (rd_mono (hid_same H μ) h2)), by rw [l1, l2]; exact hz, fun e => ?_, fun _ e => ?_, fun _ _ q n => c.new hm n (rel_tup hm n (dpAll_append a1 a2)) p⟩
  · subst e
    cases xs with
    | nil => exact c.here hm ry' p
    | cons _ _ => simp at l1
  · subst e
    cases ys with
    | nil => rw [List.append_nil] at p; exact c.here hm rx' p
    | cons _ _ => simp at l2
/-! x in a tuple of data -/
def rInT (K : PySem.W.Frag) (neg : Bool) : R2 := fun x y H Q => ∃ d ds, Dp K H x d ∧ Dp K H y (.tuple ds) ∧ SeqAt.shaped d = true ∧ SeqAt.shaped (.list ds) = true ∧ Q (.bl (if neg = true then !ds.any fun z => PyData.eqv z d else ds.any fun z => PyData.eqv z d)) H
theorem op_inT (hu : X.A.units + 65 < cLine) : OpR X (compareOp .In) (rInT X.K false) := by
  intro pins s σ H x y v u Q I rx ry h
  obtain ⟨d, ds, hd, he, sd, se, q⟩ := h
  obtain ⟨as, r1⟩ := Dp.reads I d x v hd rx
  obtain ⟨bs, r2⟩ := Dp.reads I (.tuple ds) y u he ry
  exact SeqAt.in_tuple_reads r2 r1 (SeqAt.canLay_of_shaped se) (SeqAt.canLay_of_shaped sd) (room_in_shaped sd hu) ⟨.bl _, H, I, rfl, q⟩
theorem op_notInT (hu : X.A.units + 65 < cLine) : OpR X (compareOp .NotIn) (rInT X.K true) := by
  intro pins s σ H x y v u Q I rx ry h
  obtain ⟨d, ds, hd, he, sd, se, q⟩ := h
  obtain ⟨as, r1⟩ := Dp.reads I d x v hd rx
  obtain ⟨bs, r2⟩ := Dp.reads I (.tuple ds) y u he ry
  exact SeqAt.notIn_tuple_reads r2 r1 (SeqAt.canLay_of_shaped se) (SeqAt.canLay_of_shaped sd) (room_in_shaped sd hu) ⟨.bl _, H, I, rfl, q⟩
def memD (ds : List PyData) (d : PyData) : Bool := ds.any fun z => PyData.eqv z d
def oInT (neg : Bool) : DO2 := fun a b μ P => ∃ d ds, a = .dat d ∧ b = .dat (.tuple ds) ∧ SeqAt.shaped d = true ∧ SeqAt.shaped (.list ds) = true ∧ P (.dat (.bool (if neg = true then !memD ds d else memD ds d))) μ
theorem so_inT {neg : Bool} : SO2 K (rInT K neg) (oInT neg) := fun x y H Q a b μ P hm rx ry ⟨d, ds, e1, e2, s1, s2, p⟩ c => by
  subst e1 e2
  exact ⟨d, ds, dp_mono (hid_same H μ) (dp_up rx), dp_mono (hid_same H μ) (dp_up ry), s1, s2, c.here hm (rB _) p⟩
/-! ### calls -/
theorem relAs1 {H : Hp} {vs : List V} {a : AV} (h : RelAs K H vs [a]) : ∃ v, vs = [v] ∧ RelA K H v a := by
  cases h with
  | cons r t => cases t; exact ⟨_, rfl, r⟩
theorem relAs2 {H : Hp} {vs : List V} {a b : AV} (h : RelAs K H vs [a, b]) : ∃ v w, vs = [v, w] ∧ RelA K H v a ∧ RelA K H w b := by
  cases h with
  | cons r t =>
    obtain ⟨w, rfl, r2⟩ := relAs1 t
    exact ⟨_, _, rfl, r, r2⟩
/-- one argument -/
def oA1 (d : DO1) : DOs := fun as μ P => ∃ a, as = [a] ∧ d a μ P
def oA2 (d : DO2) : DOs := fun as μ P => ∃ a b, as = [a, b] ∧ d a b μ P
theorem so_A1 {r : List V → Hp → VK → Prop} {d : DO1} (h : SO1 K (fun x H Q => r [x] H Q) d) : SOs K r (oA1 d) := fun xs H Q as μ P hm rx ⟨a, e, m⟩ c => by
  subst e
  obtain ⟨v, rfl, rv⟩ := relAs1 rx
  exact h v H Q a μ P hm rv m c
theorem so_A2 {r : List V → Hp → VK → Prop} {d : DO2} (h : SO2 K (fun x y H Q => r [x, y] H Q) d) : SOs K r (oA2 d) := fun xs H Q as μ P hm rx ⟨a, b, e, m⟩ c => by
  subst e
  obtain ⟨v, w, rfl, rv, rw'⟩ := relAs2 rx
  exact h v w H Q a b μ P hm rv rw' m c
def tyN : PyData → String
  | .none => "NoneType"
  | .bool _ => "bool"
  | .int _ => "int"
  | .str _ => "str"
  | .list _ => "list"
  | .tuple _ => "tuple"
  | .dict _ => "dict"
theorem ty_of {H : Hp} {v : V} {d : PyData} (h : Dp K H v d) : TyX K H v (.type (tyN d)) := by
  cases h with
  | non => exact .base .non
  | bl b => exact .base (.bl b)
  | int i => exact .base (.int i)
  | str s => exact .base (.str s)
  | lst hs _ =>
    rcases hs with (e | ⟨o, e⟩) | ⟨o, its, n, e, c, _⟩
    · exact .base (.lst e)
    · exact .base (.frz e)
    · exact .kList e c
  | tup hs _ =>
    rcases hs with (e | ⟨o, e⟩) | ⟨o, its, n, e, c, _⟩
    · exact .base (.tup e)
    · exact .fTuple e
    · exact .kTuple e c
/-- isinstance(x, T) -/
def oIsi (T : String) (f : PyData → Bool) : DOs := fun as μ P => ∃ d, as = [.dat d, .cls T] ∧ P (.dat (.bool (f d))) μ
theorem so_isi {T : String} {f : PyData → Bool} (hk : ∀ e : PyData, kitB (tyN e) T = some (f e)) : SOs K (rIsi K) (oIsi T f) := fun xs H Q as μ P hm rx ⟨d, e, p⟩ c => by
  subst e
  obtain ⟨v, w, rfl, rv, rw'⟩ := relAs2 rx
  cases (show w = .ty T from rw')
  exact ⟨v, .ty T, .type (tyN d), .type T, f d, rfl, .ty T, ty_of (dp_mono (hid_same H μ) (dp_up rv)), kit_ty (hk d), c.here hm (rB _) p⟩
def isInt : PyData → Bool
  | .int _ => true
  | .bool _ => true
  | _ => false
def isBool : PyData → Bool
  | .bool _ => true
  | _ => false
def isStr : PyData → Bool
  | .str _ => true
  | _ => false
def isTup : PyData → Bool
  | .tuple _ => true
  | _ => false
def isLst : PyData → Bool
  | .list _ => true
  | _ => false
theorem k_int : ∀ e : PyData, kitB (tyN e) "int" = some (isInt e) := fun e => by cases e <;> simp only [tyN, isInt, isBool, isStr, isTup, isLst] <;> decide +kernel
theorem k_bool : ∀ e : PyData, kitB (tyN e) "bool" = some (isBool e) := fun e => by cases e <;> simp only [tyN, isInt, isBool, isStr, isTup, isLst] <;> decide +kernel
theorem k_str : ∀ e : PyData, kitB (tyN e) "str" = some (isStr e) := fun e => by cases e <;> simp only [tyN, isInt, isBool, isStr, isTup, isLst] <;> decide +kernel
theorem k_tup : ∀ e : PyData, kitB (tyN e) "tuple" = some (isTup e) := fun e => by cases e <;> simp only [tyN, isInt, isBool, isStr, isTup, isLst] <;> decide +kernel
theorem k_lst : ∀ e : PyData, kitB (tyN e) "list" = some (isLst e) := fun e => by cases e <;> simp only [tyN, isInt, isBool, isStr, isTup, isLst] <;> decide +kernel
/-- all of a list of truths -/
def oAll : DO1 := fun a μ P => ∃ bs : List Bool, a = .dat (.list (bs.map PyData.bool)) ∧ P (.dat (.bool (bs.all id))) μ
theorem bls {H : Hp} : ∀ {xs : List V} {bs : List Bool}, DpAll K0 H xs (bs.map PyData.bool) → xs = bs.map V.bl
  | _, [], h => by cases h; rfl
  | _, b :: bs, h => by
    cases h with
    | cons a t => cases a; rw [bls t]; rfl
theorem ints_of {H : Hp} : ∀ {xs : List V} {bs : List Int}, DpAll K0 H xs (bs.map PyData.int) → xs = bs.map V.int
  | _, [], h => by cases h; rfl
  | _, b :: bs, h => by
    cases h with
    | cons a t => cases a; rw [ints_of t]; rfl
theorem strs_of {H : Hp} : ∀ {xs : List V} {bs : List Str}, DpAll K0 H xs (bs.map PyData.str) → xs = bs.map V.str
  | _, [], h => by cases h; rfl
  | _, b :: bs, h => by
    cases h with
    | cons a t => cases a; rw [strs_of t]; rfl
theorem of_strs {H : Hp} : ∀ bs : List Str, DpAll K0 H (bs.map V.str) (bs.map PyData.str)
  | [] => .nil
  | b :: bs => .cons (.str b) (of_strs bs)
theorem of_ints {H : Hp} : ∀ bs : List Int, DpAll K0 H (bs.map V.int) (bs.map PyData.int)
  | [] => .nil
  | b :: bs => .cons (.int b) (of_ints bs)
theorem so_all : SO1 K (fun x H Q => rAll K [x] H Q) oAll := fun x H Q a μ P hm rx ⟨bs, e1, p⟩ c => by
  subst e1
  obtain ⟨p1, v1, rfl, h1, a1⟩ := dp_list rx
  have e := bls a1
  subst e
  exact ⟨p1, bs, rfl, (.inl (rd_mono (hid_same H μ) h1)), c.here hm (rB _) p⟩
def LenD : AV → Mu → Nat → Prop
  | .dat (.str s), _, n => s.length ≤ sizeLine ∧ n = s.length
  | .dat (.list ds), _, n => n = ds.length
  | .dat (.tuple ds), _, n => n = ds.length
  | .mut p, μ, n => ∃ as, μ p = some (.lst as) ∧ n = as.length
  | _, _, _ => False
def oLen : DO1 := fun a μ P => ∃ n : Nat, LenD a μ n ∧ P (.dat (.int n)) μ
theorem so_len : SO1 K (fun x H Q => ∃ y n, [x] = [y] ∧ LenV K y H n ∧ Q (.int n) H) oLen := fun x H Q a μ P hm rx ⟨n, e1, p⟩ c => by
  refine ⟨x, n, rfl, ?_, c.here hm (rI _) p⟩
  cases a with
  | dat d =>
    cases d <;> try exact e1.elim
    · have e := dp_str rx
      subst e
      exact e1
    · obtain ⟨p1, v1, rfl, h1, a1⟩ := dp_list rx
      exact .inl ⟨v1, (.inl (rd_mono (hid_same H μ) h1)), by rw [dpAll_len a1]; exact e1⟩
    · obtain ⟨p1, v1, rfl, h1, a1⟩ := dp_tuple rx
      exact .inr ⟨v1, (.inl (rd_mono (hid_same H μ) h1)), by rw [dpAll_len a1]; exact e1⟩
  | «mut» q =>
    obtain ⟨as, h1, h2⟩ := e1
    cases (show x = .ref q from rx)
    obtain ⟨xs, e2, r⟩ := hm.lst h1
    exact .inl ⟨xs, .inl (.inl e2), by rw [paired_len r]; exact h2⟩
  | cls _ => exact e1.elim
  | raw _ => exact e1.elim
def oAbs : DO1 := fun a μ P => ∃ i : Int, a = .dat (.int i) ∧ P (.dat (.int (if i < 0 then -i else i))) μ
theorem so_abs : SO1 K (fun x H Q => ∃ i, [x] = [V.int i] ∧ Q (.int (if i < 0 then -i else i)) H) oAbs := fun x H Q a μ P hm rx ⟨i, e1, p⟩ c => by
  subst e1
  have e := dp_int rx
  subst e
  exact ⟨i, rfl, c.here hm (rI _) p⟩
def oInt : DO1 := fun a μ P => (∃ i : Int, a = .dat (.int i) ∧ P (.dat (.int i)) μ) ∨ ∃ k : Bool, a = .dat (.bool k) ∧ P (.dat (.int (if k then 1 else 0))) μ
theorem so_int : SO1 K (fun x H Q => (∃ i, [x] = [V.int i] ∧ Q (.int i) H) ∨ ∃ k, [x] = [V.bl k] ∧ Q (.int (if k then 1 else 0)) H) oInt := fun x H Q a μ P hm rx h c => by
  rcases h with ⟨i, e1, p⟩ | ⟨i, e1, p⟩
  · subst e1
    have e := dp_int rx
    subst e
    exact .inl ⟨i, rfl, c.here hm (rI _) p⟩
  · subst e1
    have e := dp_bl rx
    subst e
    exact .inr ⟨i, rfl, c.here hm (rI _) p⟩
def oMax : DO2 := fun a b μ P => ∃ i j : Int, a = .dat (.int i) ∧ b = .dat (.int j) ∧ P (.dat (.int (if j > i then j else i))) μ
def oMin : DO2 := fun a b μ P => ∃ i j : Int, a = .dat (.int i) ∧ b = .dat (.int j) ∧ P (.dat (.int (if j < i then j else i))) μ
theorem so_max : SO2 K (fun x y H Q => ∃ i j, [x, y] = [V.int i, V.int j] ∧ Q (.int (if j > i then j else i)) H) oMax := fun x y H Q a b μ P hm rx ry ⟨i, j, e1, e2, p⟩ c => by
  subst e1 e2
  exact ⟨i, j, by rw [dp_int rx, dp_int ry], c.here hm (rI _) p⟩
theorem so_min : SO2 K (fun x y H Q => ∃ i j, [x, y] = [V.int i, V.int j] ∧ Q (.int (if j < i then j else i)) H) oMin := fun x y H Q a b μ P hm rx ry ⟨i, j, e1, e2, p⟩ c => by
  subst e1 e2
  exact ⟨i, j, by rw [dp_int rx, dp_int ry], c.here hm (rI _) p⟩
def oStrI : DO1 := fun a μ P => ∃ i : Int, a = .dat (.int i) ∧ i.natAbs.log2 < 1920 ∧ P (.dat (.str (toString i))) μ
theorem so_strI : SO1 K (fun x H Q => ∃ i, [x] = [V.int i] ∧ i.natAbs.log2 < 1920 ∧ Q (.str (toString i)) H) oStrI := fun x H Q a μ P hm rx ⟨i, e1, hz, p⟩ c => by
  subst e1
  have e := dp_int rx
  subst e
  exact ⟨i, rfl, hz, c.here hm (rS _) p⟩
/-- sorted of texts -/
def oSortS : DO1 := fun a μ P => ∃ xs : List Str, a = .dat (.list (xs.map PyData.str)) ∧ xs.length < 64 ∧ ∀ ys : List Str, ys.Perm xs → sortedS ys = true → P (.dat (.list (ys.map PyData.str))) μ
theorem so_sortS : SO1 K (fun x H Q => rSortedS K [x] H Q) oSortS := fun x H Q a μ P hm rx ⟨xs, e1, hz, p⟩ c => by
  subst e1
  obtain ⟨p1, v1, rfl, h1, a1⟩ := dp_list rx
  have e := strs_of a1
  subst e
  exact ⟨p1, xs, rfl, (.inl (rd_mono (hid_same H μ) h1)), hz, fun ys q hp hs n => c.new hm n (rel_lst hm n (of_strs ys)) (p ys hp hs)⟩
/-- the items of a list or tuple -/
def itemsD : PyData → Option (List PyData)
  | .list ds => some ds
  | .tuple ds => some ds
  | _ => none
theorem sq_items {H : Hp} {μ : Mu} {v : V} {d : PyData} {ds : List PyData} (r : RelA K (hid H μ) v (.dat d)) (e : itemsD d = some ds) : ∃ p xs, v = .ref p ∧ (SqL K H p xs ∨ SqT K H p xs) ∧ DpAll K0 (hid H μ) xs ds := by
  cases d <;> simp only [itemsD, Option.some.injEq, reduceCtorEq] at e <;> subst e
  · obtain ⟨p1, v1, rfl, h1, a1⟩ := dp_list r
    exact ⟨p1, v1, rfl, .inl ((.inl (rd_mono (hid_same H μ) h1))), a1⟩
  · obtain ⟨p1, v1, rfl, h1, a1⟩ := dp_tuple r
    exact ⟨p1, v1, rfl, .inr ((.inl (rd_mono (hid_same H μ) h1))), a1⟩
/-- list(x): data; or a cell -/
def oList : DO1 := fun a μ P => ∃ d ds, a = .dat d ∧ itemsD d = some ds ∧ P (.dat (.list ds)) μ
def oListM : DO1 := fun a μ P => ∃ d ds, a = .dat d ∧ itemsD d = some ds ∧ ∀ p, μ p = none → P (.mut p) (mset μ p (some (.lst (ds.map AV.dat))))
theorem so_list : SO1 K (fun x H Q => ∃ p ys, [x] = [V.ref p] ∧ (SqL K H p ys ∨ SqT K H p ys) ∧ ∀ l, H l = none → Q (.ref l) (upd H l (.lst ys))) oList := fun x H Q a μ P hm rx ⟨d, ds, e1, e2, p⟩ c => by
  subst e1
  obtain ⟨q, xs, rfl, h1, a1⟩ := sq_items rx e2
  exact ⟨q, xs, rfl, h1, fun l n => c.new hm n (rel_lst hm n a1) p⟩
theorem Cont.cell {H : Hp} {μ : Mu} {P : DV} {Q : VK} (c : Cont K H μ P Q) (hm : HM K H μ) {p : Addr} (n : H p = none) {xs : List V} {as : List AV} (r : RelAs K (hid H μ) xs as) (q : P (.mut p) (mset μ p (some (.lst as)))) : Q (.ref p) (upd H p (.lst xs)) := by
  have hp : hid H μ p = none := by rw [hid_none (hm.ne n)]; exact n
  refine c _ _ (.mut p) (mset μ p (some (.lst as))) ?_ (hm.store hp r) rfl q
  rw [hid_store hp]
  exact Same.refl _
theorem so_listM : SO1 K (fun x H Q => ∃ p ys, [x] = [V.ref p] ∧ (SqL K H p ys ∨ SqT K H p ys) ∧ ∀ l, H l = none → Q (.ref l) (upd H l (.lst ys))) oListM := fun x H Q a μ P hm rx ⟨d, ds, e1, e2, p⟩ c => by
  subst e1
  obtain ⟨q, xs, rfl, h1, a1⟩ := sq_items rx e2
  exact ⟨q, xs, rfl, h1, fun l n => c.cell hm n (relAs_dat.mp a1) (p l (hm.ne n))⟩
/-- tuple(x), x data, or a cell -/
def oTuple : DO1 := fun a μ P => (∃ d ds, a = .dat d ∧ itemsD d = some ds ∧ P (.dat (.tuple ds)) μ) ∨ ∃ q ds, a = .mut q ∧ μ q = some (.lst (ds.map AV.dat)) ∧ P (.dat (.tuple ds)) μ
theorem so_tuple : SO1 K (fun x H Q => ∃ p ys, [x] = [V.ref p] ∧ ((SqL K H p ys ∧ ∀ l, H l = none → Q (.ref l) (upd H l (.tup ys))) ∨ (SqT K H p ys ∧ Q (.ref p) H))) oTuple := fun x H Q a μ P hm rx h c => by
  rcases h with ⟨d, ds, e1, e2, p⟩ | ⟨q, ds, e1, e2, p⟩
  · subst e1
    cases d <;> simp only [itemsD, Option.some.injEq, reduceCtorEq] at e2 <;> subst e2
    · obtain ⟨p1, v1, rfl, h1, a1⟩ := dp_list rx
      exact ⟨p1, v1, rfl, .inl ⟨(.inl (rd_mono (hid_same H μ) h1)), fun l n => c.new hm n (rel_tup hm n a1) p⟩⟩
    · have rx' := rx
      obtain ⟨p1, v1, rfl, h1, a1⟩ := dp_tuple rx
      exact ⟨p1, v1, rfl, .inr ⟨(.inl (rd_mono (hid_same H μ) h1)), c.here hm rx' p⟩⟩
  · subst e1
    cases (show x = .ref q from rx)
    obtain ⟨xs, e3, r⟩ := hm.lst e2
    exact ⟨q, xs, rfl, .inl ⟨.inl (.inl e3), fun l n => c.new hm n (rel_tup hm n (relAs_dat.mpr r)) p⟩⟩
/-- repr of data -/
def rRepr (K : PySem.W.Frag) : List V → Hp → VK → Prop := fun xs H Q => ∃ v d, xs = [v] ∧ Dp K H v d ∧ d.showable = true ∧ d.hasDict = false ∧ d.depth ≤ 60 ∧ d.shown.length ≤ sizeLine ∧ Q (.str d.shown) H
theorem call_repr (hg : X.A.guards = some []) (hu : X.A.units + 64 < cLine) : CallR X (.builtin "repr") (rRepr X.K) := by
  intro pins s σ H xs us Q I r h
  obtain ⟨v, d, rfl, hd, hs, hn, hp, hz, q⟩ := h
  obtain ⟨u, rfl, ru⟩ := vals1 r
  have fin : ∀ (h' : Heap) (tk : Nat) (t : Tok), (∀ b o, s.heap.get? b = some o → h'.get? b = some o) → EP X pins σ Q (.str d.shown t) { s with heap := h', toks := tk } := fun h' tk t hk =>
    ⟨.str d.shown, H, I.kept (t' := tk) hk, ⟨t, rfl⟩, q⟩
  cases hd with
  | non =>
    cases (show u = Value.none from ru)
    exact PySem.P.repr_of_none (by have e := fin s.heap (s.toks + 1) s.toks (fun _ _ e => e); rw [PyData.shown_none] at e; exact e)
  | bl b =>
    cases (show u = Value.bool b from ru)
    exact PySem.P.repr_of_bool (by have e := fin s.heap (s.toks + 1) s.toks (fun _ _ e => e); rw [PyData.shown_bool] at e; exact e)
  | int i =>
    obtain ⟨t, rfl⟩ := ru
    exact PySem.P.repr_of_int (by simpa only [PyData.showable, decide_eq_true_eq] using hs) (by have e := fin s.heap (s.toks + 1) s.toks (fun _ _ e => e); rw [PyData.shown_int] at e; exact e)
  | str y =>
    obtain ⟨t, rfl⟩ := ru
    exact PySem.P.repr_of_str (by have e := fin s.heap (s.toks + 1) s.toks (fun _ _ e => e); rw [PyData.shown_str] at e; exact e) (by rw [PyData.shown_str] at hz; exact hz)
  | lst h1 h2 =>
    obtain ⟨as, rd⟩ := Dp.reads I _ _ _ (Dp.lst h1 h2) ru
    cases ru
    exact repr_of_reads' rd hs (PyData.noDict_hsm hn) hg (by omega) (fun _ _ e => e) (fun h' t tk hk => fin h' tk t hk) hz
  | tup h1 h2 =>
    obtain ⟨as, rd⟩ := Dp.reads I _ _ _ (Dp.tup h1 h2) ru
    cases ru
    exact repr_of_reads' rd hs (PyData.noDict_hsm hn) hg (by omega) (fun _ _ e => e) (fun h' t tk hk => fin h' tk t hk) hz
end
end DL

namespace DL
open PySem PySem.Spec PyProof.Rows L2 RZ
section
variable {X : Cx} {K : PySem.W.Frag} {a b e : Expr} {ta tb te : TE} {Ma Mb Me : DEx} {pos : Pos}
/-! ### subscripts -/
theorem atI_dp {H : Hp} {xs : List V} {ds : List PyData} {i : Int} {d : PyData} (r : DpAll K0 H xs ds) (h : atI ds i = some d) : ∃ v, atI xs i = some v ∧ Dp K0 H v d := by
  unfold atI at h ⊢
  rw [dpAll_len r]
  cases q : ixN ds.length i with
  | none => rw [q] at h; cases h
  | some j =>
    rw [q] at h
    exact dpAll_get r h
theorem atI_rel {H : Hp} {xs : List V} {as : List AV} {i : Int} {c : AV} (r : RelAs K H xs as) (h : atI as i = some c) : ∃ v, atI xs i = some v ∧ RelA K H v c := by
  unfold atI at h ⊢
  rw [paired_len r]
  cases q : ixN as.length i with
  | none => rw [q] at h; cases h
  | some j =>
    rw [q] at h
    exact paired_get r h
def ixD : AV → Mu → Int → AV → Prop
  | .dat (.list ds), _, i, r => ∃ d, r = .dat d ∧ atI ds i = some d
  | .dat (.tuple ds), _, i, r => ∃ d, r = .dat d ∧ atI ds i = some d
  | .dat (.str z), _, i, r => ∃ c, r = .dat (.str ⟨#[c]⟩) ∧ z.length ≤ sizeLine ∧ atI z.cps.toList i = some c
  | .mut p, μ, i, r => ∃ as, μ p = some (.lst as) ∧ atI as i = some r
  | _, _, _, _ => False
def oIx : DO2 := fun a b μ P => ∃ i r, b = .dat (.int i) ∧ ixD a μ i r ∧ P r μ
theorem so_ix : SO2 K (rIx K) oIx := fun x y H Q a b μ P hm rx ry ⟨i, r, e1, e2, p⟩ c => by
  subst e1
  have ey := dp_int ry
  subst ey
  cases a with
  | dat d =>
    cases d <;> try exact e2.elim
    · obtain ⟨d, rfl, hz, h⟩ := e2
      have ex := dp_str rx
      subst ex
      exact .inr (.inr ⟨_, i, d, rfl, rfl, hz, h, c.here hm (rS _) p⟩)
    · obtain ⟨d, rfl, h⟩ := e2
      obtain ⟨p1, v1, rfl, h1, a1⟩ := dp_list rx
      obtain ⟨v, hv, rv⟩ := atI_dp a1 h
      exact .inl ⟨p1, v1, i, v, rfl, rfl, .inl (rd_mono (hid_same H μ) h1), hv, c.here hm (a := .dat d) rv p⟩
    · obtain ⟨d, rfl, h⟩ := e2
      obtain ⟨p1, v1, rfl, h1, a1⟩ := dp_tuple rx
      obtain ⟨v, hv, rv⟩ := atI_dp a1 h
      exact .inr (.inl ⟨p1, v1, i, v, rfl, rfl, .inl (rd_mono (hid_same H μ) h1), hv, c.here hm (a := .dat d) rv p⟩)
  | «mut» q =>
    obtain ⟨as, h1, h⟩ := e2
    cases (show x = .ref q from rx)
    obtain ⟨xs, e2, r⟩ := hm.lst h1
    obtain ⟨v, hv, rv⟩ := atI_rel r h
    exact .inl ⟨q, xs, i, v, rfl, rfl, .inl (.inl e2), hv, c.here hm rv p⟩
  | cls _ => exact e2.elim
  | raw _ => exact e2.elim
theorem de_ix (ha : DE X a ta Ma) (hb : DE X b tb Mb) (hs : PlainIx b) : DE X (.Subscript a b pos) (tOp (rIx X.K) ta tb) (mOp oIx Ma Mb) := ⟨pe_ix ix_seq ha.pe hb.pe hs, se_op so_ix ha.se hb.se⟩
/-! slices -/
abbrev DOx := Dl → Mu → (Option Int → Mu → Prop) → Prop
def SO' (K : PySem.W.Frag) (t : TO) (M : DOx) : Prop := ∀ σ H (Q : Option Int → Hp → Prop) δ μ P, Rel K (hid H μ) σ δ → HM K H μ → M δ μ P → (∀ o H' μ', Same (hid H μ) (hid H' μ') → HM K H' μ' → P o μ' → Q o H') → t σ H Q
structure DP (X : Cx) (e : Option Expr) (t : TO) (M : DOx) : Prop where
  po : PO X e t
  so : SO' X.K t M
def mPart (Me : DEx) : DOx := fun δ μ P => Me δ μ fun a μ1 => ∃ i, a = .dat (.int i) ∧ P (some i) μ1
theorem dp_none : DP X none tNoPart (fun _ μ P => P none μ) := ⟨po_none, fun σ H Q δ μ P R hm m c => c none H μ (Same.refl _) hm m⟩
theorem dp_some (h : DE X e te Me) : DP X (some e) (tPart te) (mPart Me) := ⟨po_some h.pe, fun σ H Q δ μ P R hm m c => h.se σ H _ δ μ _ R hm m fun v H1 a μ1 e1 hm1 r1 ⟨i, ea, m1⟩ => by
  subst ea
  exact ⟨i, dp_int r1, c _ H1 μ1 e1 hm1 m1⟩⟩
def cutL {α : Type} (xs : List α) (lo hi : Option Int) : List α := (xs.drop (HT.sIx xs.length 0 lo)).take (HT.sIx xs.length xs.length hi - HT.sIx xs.length 0 lo)
theorem cut_dp {H : Hp} {xs : List V} {ds : List PyData} (r : DpAll K0 H xs ds) (lo hi : Option Int) : DpAll K0 H (cutV xs lo hi) (cutL ds lo hi) := by
  unfold cutV cutL
  rw [dpAll_len r]
  exact dpAll_take _ (dpAll_drop _ r)
theorem cut_map {α β : Type} (f : α → β) (xs : List α) (lo hi : Option Int) : cutL (xs.map f) lo hi = (cutL xs lo hi).map f := by
  unfold cutL
  rw [List.length_map, List.map_take, List.map_drop]
def oSl (lo hi : Option Int) : DO1 := fun a μ P => match a with
  | .dat (.list ds) => P (.dat (.list (cutL ds lo hi))) μ
  | .dat (.tuple ds) => P (.dat (.tuple (cutL ds lo hi))) μ
  | .dat (.str z) => z.length ≤ sizeLine ∧ P (.dat (.str (cutS z lo hi))) μ
  | .raw ns => P (.dat (.list ((cutL ns lo hi).map PyData.int))) μ
  | _ => False
abbrev rSl (K : PySem.W.Frag) : V → Option Int → Option Int → Hp → VK → Prop := fun x lo hi H Q => rSlL K x lo hi H Q ∨ (rSlA K x lo hi H Q ∨ rSlS x lo hi H Q)
theorem sl_any : SlR X (rSl X.K) := SlR.or sl_list (SlR.or sl_tupA sl_str)
theorem so_sl {lo hi : Option Int} : SO1 K (fun x H Q => rSl K x lo hi H Q) (oSl lo hi) := fun x H Q a μ P hm rx h c => by
  cases a with
  | dat d =>
    cases d with
    | list ds =>
      have p : P (.dat (.list (cutL ds lo hi))) μ := h
      obtain ⟨p1, v1, rfl, h1, a1⟩ := dp_list rx
      exact .inl ⟨p1, v1, rfl, .inl (rd_mono (hid_same H μ) h1), fun q n => c.new hm n (rel_lst hm n (cut_dp a1 lo hi)) p⟩
    | tuple ds =>
      have p : P (.dat (.tuple (cutL ds lo hi))) μ := h
      have rx' := rx
      obtain ⟨p1, v1, rfl, h1, a1⟩ := dp_tuple rx
      refine .inr (.inl ⟨p1, v1, rfl, .inl (rd_mono (hid_same H μ) h1), fun ⟨w1, w2⟩ => ?_, fun _ q n => c.new hm n (rel_tup hm n (cut_dp a1 lo hi)) p⟩)
      have e : cutL ds lo hi = ds := by
        unfold cutL
        rw [← dpAll_len a1, w1, w2, dpAll_len a1]
        simp
      rw [e] at p
      exact c.here hm rx' p
    | str z =>
      obtain ⟨hz, p⟩ : z.length ≤ sizeLine ∧ P (.dat (.str (cutS z lo hi))) μ := h
      have ex := dp_str rx
      subst ex
      exact .inr (.inr ⟨z, rfl, hz, c.here hm (rS _) p⟩)
    | _ => exact h.elim
  | raw ns =>
    have p : P (.dat (.list ((cutL ns lo hi).map PyData.int))) μ := h
    obtain ⟨p1, rfl, h1⟩ := rx
    refine .inl ⟨p1, _, rfl, (hid_same H μ).seq h1, fun q n => c.new hm n (rel_lst hm n ?_) p⟩
    have e : cutV (ns.map V.int) lo hi = (cutL ns lo hi).map V.int := cut_map V.int ns lo hi
    rw [e]
    exact of_ints _
  | _ => exact h.elim
def mSl (Me : DEx) (Ml Mh : DOx) : DEx := fun δ μ P => Me δ μ fun a μ1 => Ml δ μ1 fun lo μ2 => Mh δ μ2 fun hi μ3 => oSl lo hi a μ3 P
theorem de_slice {lo hi : Option Expr} {tl th : TO} {Ml Mh : DOx} {p2 : Pos} (he : DE X e te Me) (hl : DP X lo tl Ml) (hh : DP X hi th Mh) : DE X (.Subscript e (.Slice lo hi none p2) pos) (tSl (rSl X.K) te tl th) (mSl Me Ml Mh) :=
  ⟨pe_slice sl_any he.pe hl.po hh.po, fun σ H Q δ μ P R hm m c => he.se σ H _ δ μ _ R hm m fun x H1 av μ1 e1 hm1 r1 m1 => hl.so σ H1 _ δ μ1 _ (R.mono e1) hm1 m1 fun l H2 μ2 e2 hm2 m2 =>
    hh.so σ H2 _ δ μ2 _ (R.mono (e1.trans e2)) hm2 m2 fun h H3 μ3 e3 hm3 m3 => so_sl x H3 Q av μ3 P hm3 (relA_mono (e2.trans e3) r1) m3 (c.from ((e1.trans e2).trans e3))⟩
/-! ### methods -/
variable {es : List Expr} {t : TA} {MA : DAx} {o : Expr} {to : TE} {Mo : DEx} {apos cpos : Pos}
def mAppend (Mo : DEx) (MA : DAx) : DEx := fun δ μ P => Mo δ μ fun a μ1 => ∃ p as0, a = .mut p ∧ μ1 p = some (.lst as0) ∧ MA δ μ1 fun xs μ2 => ∃ as x, xs = [x] ∧ μ2 p = some (.lst as) ∧ as.length < sizeLine ∧ P (.dat .none) (mset μ2 p (some (.lst (as ++ [x]))))
theorem de_append (h : PE X (.Call (.Attribute o "append" apos) (e :: es) [] cpos) (tBM X.K "list" rAppend to t)) (ho : SE X.K to Mo) (ha : SA X.K t MA) : DE X (.Call (.Attribute o "append" apos) (e :: es) [] cpos) (tBM X.K "list" rAppend to t) (mAppend Mo MA) :=
  ⟨h, fun σ H Q δ μ P R hm m c => ho σ H _ δ μ _ R hm m fun x H1 av μ1 e1 hm1 r1 ⟨p, as0, ea, h0, m1⟩ => by
    subst ea
    cases (show x = .ref p from r1)
    obtain ⟨ys, ey, _⟩ := hm1.lst h0
    refine ⟨.inl ⟨rfl, ys, .inl (.inl ey)⟩, ha σ H1 _ δ μ1 _ (R.mono e1) hm1 m1 fun xs H2 bs μ2 e2 hm2 r2 ⟨as, z, eb, h2, hz, m2⟩ => ?_⟩
    subst eb
    obtain ⟨w, rfl, rw'⟩ := relAs1 r2
    obtain ⟨zs, ez, rz⟩ := hm2.lst h2
    have hp := hid_cell (H := H2) h2
    refine ⟨p, zs, w, rfl, rfl, ez, by rw [paired_len rz]; exact hz, c _ _ (.dat .none) _ ?_ (hm2.store hp (paired_append rz (.cons rw' .nil))) rN m2⟩
    rw [hid_store hp]
    exact e1.trans e2⟩
def mPop (Mo : DEx) (MA : DAx) : DEx := fun δ μ P => Mo δ μ fun a μ1 => ∃ p as0, a = .mut p ∧ μ1 p = some (.lst as0) ∧ MA δ μ1 fun xs μ2 => ∃ (as : List AV) (i : Nat) (x : AV), xs = [.dat (.int i)] ∧ μ2 p = some (.lst as) ∧ as.length ≤ sizeLine ∧ as[i]? = some x ∧ P x (mset μ2 p (some (.lst (as.eraseIdx i))))
theorem line62 : (sizeLine : Int) < 2 ^ 62 := by rw [sizeLine_eq]; decide
theorem de_pop (h : PE X (.Call (.Attribute o "pop" apos) (e :: es) [] cpos) (tBM X.K "list" rPopAt to t)) (ho : SE X.K to Mo) (ha : SA X.K t MA) : DE X (.Call (.Attribute o "pop" apos) (e :: es) [] cpos) (tBM X.K "list" rPopAt to t) (mPop Mo MA) :=
  ⟨h, fun σ H Q δ μ P R hm m c => ho σ H _ δ μ _ R hm m fun x H1 av μ1 e1 hm1 r1 ⟨p, as0, ea, h0, m1⟩ => by
    subst ea
    cases (show x = .ref p from r1)
    obtain ⟨ys, ey, _⟩ := hm1.lst h0
    refine ⟨.inl ⟨rfl, ys, .inl (.inl ey)⟩, ha σ H1 _ δ μ1 _ (R.mono e1) hm1 m1 fun xs H2 bs μ2 e2 hm2 r2 ⟨as, i, z, eb, h2, hsz, hz, m2⟩ => ?_⟩
    subst eb
    obtain ⟨w, rfl, rw'⟩ := relAs1 r2
    have ew := dp_int rw'
    subst ew
    obtain ⟨zs, ez, rz⟩ := hm2.lst h2
    have hp := hid_cell (H := H2) h2
    obtain ⟨y, hy, ry⟩ := paired_get rz hz
    have hlt : i < zs.length := (List.getElem?_eq_some_iff.mp hy).1
    have hl := paired_len rz
    have h62 := line62
    refine ⟨p, zs, (i : Int), i, y, rfl, rfl, ez, by omega, by omega, ?_, hy, ?_⟩
    · unfold seqIndex?
      have q1 : ¬ ((i : Int) < 0) := by omega
      simp only [if_neg q1]
      have q2 : (decide (0 ≤ (i : Int)) && decide ((i : Int) < (zs.length : Int))) = true := by simp; omega
      rw [if_pos q2]
      simp
    · refine c _ _ z _ ?_ (hm2.store hp (paired_erase i rz)) (by rw [hid_store hp]; exact ry) m2
      rw [hid_store hp]
      exact e1.trans e2⟩
def oJoin : DO2 := fun a b μ P => ∃ (s : Str) (d : PyData) (ys : List Str), a = .dat (.str s) ∧ b = .dat d ∧ itemsD d = some (ys.map PyData.str) ∧ (ys.map (·.length)).sum + ys.length * s.length ≤ 16777216 ∧ P (.dat (.str (Txt.join s ys))) μ
abbrev tJoin (K : PySem.W.Frag) (to te : TE) : TE := (tM1 (fun x xs H Q => ∃ a p, ∃ ys : List Str, x = .str a ∧ xs = [.ref p] ∧ (SqL K H p (ys.map V.str) ∨ SqT K H p (ys.map V.str)) ∧
      (ys.map (·.length)).sum + ys.length * a.length ≤ 16777216 ∧ Q (.str (Txt.join a ys)) H) to te)
theorem de_join (h : PE X (.Call (.Attribute o "join" apos) [e] [] cpos) (tJoin X.K to te)) (ho : SE X.K to Mo) (he : SE X.K te Me) : DE X (.Call (.Attribute o "join" apos) [e] [] cpos) (tJoin X.K to te) (mOp oJoin (fun δ μ P => Mo δ μ fun x μ1 => (∃ s, x = .dat (.str s)) ∧ P x μ1) Me) :=
  ⟨h, fun σ H Q δ μ P R hm m c => ho σ H _ δ μ _ R hm m fun x H1 av μ1 e1 hm1 r1 ⟨⟨s, es⟩, m1⟩ => by
    subst es
    have ex := dp_str r1
    subst ex
    refine ⟨⟨s, rfl⟩, he σ H1 _ δ μ1 _ (R.mono e1) hm1 m1 fun y H2 bv μ2 e2 hm2 r2 ⟨s', d, ys, ea, eb, hi, hz, m2⟩ => ?_⟩
    cases ea
    subst eb
    obtain ⟨q, xs, rfl, hq, hx⟩ := sq_items r2 hi
    have e := strs_of hx
    subst e
    exact ⟨s, q, ys, rfl, rfl, hq, hz, (c.from (e1.trans e2)).here hm2 (rS _) m2⟩⟩
def oUpper : DO1 := fun a μ P => ∃ s : Str, a = .dat (.str s) ∧ s.length ≤ 5592405 ∧ P (.dat (.str (Txt.upper s))) μ
abbrev tUpper (to : TE) : TE := (tM0 (fun x xs H Q => ∃ a, x = .str a ∧ xs = [] ∧ a.length ≤ 5592405 ∧ Q (.str (Txt.upper a)) H) to)
theorem de_upper (h : PE X (.Call (.Attribute o "upper" apos) [] [] cpos) (tUpper to)) (ho : SE X.K to Mo) : DE X (.Call (.Attribute o "upper" apos) [] [] cpos) (tUpper to) (mUn oUpper Mo) :=
  ⟨h, fun σ H Q δ μ P R hm m c => ho σ H _ δ μ _ R hm m fun x H1 av μ1 e1 hm1 r1 ⟨s, ea, hz, m1⟩ => by
    subst ea
    have ex := dp_str r1
    subst ex
    exact ⟨⟨s, rfl⟩, s, rfl, rfl, hz, (c.from e1).here hm1 (rS _) m1⟩⟩
/-- isinstance(x, (T1, T2)), the tuple of classes laid just then -/
def oIsi2 (f g : PyData → Bool) : DO1 := fun a μ P => ∃ d, a = .dat d ∧ P (.dat (.bool (f d || g d))) μ
theorem kitAny2 {t : String} {c1 c2 : String} {x y : Bool} (h1 : kitB t c1 = some x) (h2 : kitB t c2 = some y) : PySem.W.kitAny K (.type t) [.type c1, .type c2] = some (x || y) := by
  cases x with
  | true => exact kitAny_cons (kit_ty h1) (fun z => by cases z) (fun _ => rfl)
  | false =>
    refine kitAny_cons (kit_ty h1) (fun _ => ?_) (fun z => by cases z)
    cases y with
    | true => exact kitAny_cons (kit_ty h2) (fun z => by cases z) (fun _ => rfl)
    | false => exact kitAny_cons (kit_ty h2) (fun _ => rfl) (fun z => by cases z)
abbrev tIsi2 (K : PySem.W.Frag) (te : TE) (c1 c2 : String) : TE := tCB (rIsiT K) (tCons te (tCons (tTup (tCons (tC (.ty c1)) (tCons (tC (.ty c2)) tNil))) tNil))
theorem de_isi2 {f g : PyData → Bool} {c1 c2 : String} (he : DE X e te Me) (k1 : ∀ d, kitB (tyN d) c1 = some (f d)) (k2 : ∀ d, kitB (tyN d) c2 = some (g d)) {w : Expr}
    (h : PE X w (tIsi2 X.K te c1 c2)) : DE X w (tIsi2 X.K te c1 c2) (mUn (oIsi2 f g) Me) :=
  ⟨h, fun σ H Q δ μ P R hm m c => he.se σ H _ δ μ _ R hm m fun x H1 av μ1 e1 hm1 r1 ⟨d, ea, m1⟩ => by
    subst ea
    refine ⟨by show 2 ≤ sizeLine; decide, fun p n => ?_⟩
    refine ⟨x, p, _, .type (tyN d), [.type c1, .type c2], f d || g d, rfl, upd_same, .cons (.ty c1) (.cons (.ty c2) .nil), ty_of (dp_mono ((hid_new hm1 n _).trans (hid_same _ μ1)) (dp_up r1)), kitAny2 (k1 d) (k2 d), ?_⟩
    exact c _ _ (.dat (.bool _)) μ1 (e1.trans (hid_new hm1 n _)) (hm1.new n _) (rB _) m1⟩
end
/-! ### targets -/
abbrev DGx := AV → Dl → Mu → (Dl → Mu → Prop) → Prop
def SG (K : PySem.W.Frag) (g : TG) (G : DGx) (vs : List Nat) : Prop := ∀ v σ H (Q : L2.St → Hp → Prop) a δ μ P, Rel K (hid H μ) σ δ → HM K H μ → RelA K (hid H μ) v a → G a δ μ P →
  (∀ σ' H' δ' μ', Same (hid H μ) (hid H' μ') → HM K H' μ' → Rel K (hid H' μ') σ' δ' → wipe σ' vs = wipe σ vs → P δ' μ' → Q σ' H') → g v σ H Q
def SGs (K : PySem.W.Frag) (g : TGs) (G : List AV → Dl → Mu → (Dl → Mu → Prop) → Prop) (vs : List Nat) : Prop := ∀ xs σ H (Q : L2.St → Hp → Prop) as δ μ P, Rel K (hid H μ) σ δ → HM K H μ → RelAs K (hid H μ) xs as → G as δ μ P →
  (∀ σ' H' δ' μ', Same (hid H μ) (hid H' μ') → HM K H' μ' → Rel K (hid H' μ') σ' δ' → wipe σ' vs = wipe σ vs → P δ' μ' → Q σ' H') → g xs σ H Q
structure DG (X : Cx) (tg : Expr) (g : TG) (G : DGx) (vs : List Nat) : Prop where
  pg : PG X tg g
  sg : SG X.K g G vs
structure DGs (X : Cx) (tg : List Expr) (g : TGs) (G : List AV → Dl → Mu → (Dl → Mu → Prop) → Prop) (vs : List Nat) : Prop where
  pgs : PGs X tg g
  sgs : SGs X.K g G vs
theorem wipe_set {σ : L2.St} {i : Nat} {x : Option V} : ∀ {vs : List Nat}, i ∈ vs → wipe (σ.set i x) vs = wipe σ vs
  | [], h => by simp at h
  | v :: vs, h => by
    unfold wipe
    by_cases e : i ∈ vs
    · rw [wipe_set e]
    · have ei : i = v := by
        rcases List.mem_cons.mp h with z | z
        · exact z
        · exact absurd z e
      subst ei
      have q : ∀ ws : List Nat, i ∉ ws → wipe (σ.set i x) ws = (wipe σ ws).set i x := by
        intro ws
        induction ws with
        | nil => intro _; rfl
        | cons w ws ih =>
          intro hw
          unfold wipe
          have hne : i ≠ w := fun z => hw (by rw [z]; exact List.mem_cons_self)
          rw [ih fun z => hw (List.mem_cons_of_mem _ z), List.set_comm _ _ hne]
      rw [q vs e, List.set_set]
section
variable {X : Cx} {K : PySem.W.Frag} {e : Expr} {es : List Expr} {te : TE} {Me : DEx} {pos : Pos} {vs : List Nat}
def mgName (i : Nat) : DGx := fun a δ μ P => P (δ.set i (some a)) μ
theorem dg_name {i : Nat} (h : PG X e (gName i)) (hi : i ∈ vs) : DG X e (gName i) (mgName i) vs := ⟨h, fun v σ H Q a δ μ P R hm r m c => c _ H _ μ (Same.refl _) hm (R.set i r) (wipe_set hi) m⟩
def mgNil : List AV → Dl → Mu → (Dl → Mu → Prop) → Prop := fun as δ μ P => match as with
  | [] => P δ μ
  | _ => False
theorem dgs_nil : DGs X [] gNil mgNil vs := ⟨pgs_nil, fun xs σ H Q as δ μ P R hm r m c => by
  cases as with
  | cons _ _ => exact m.elim
  | nil =>
  have m : P δ μ := m
  cases r
  exact ⟨rfl, c σ H δ μ (Same.refl _) hm R rfl m⟩⟩
def mgCons (G : DGx) (Gs : List AV → Dl → Mu → (Dl → Mu → Prop) → Prop) : List AV → Dl → Mu → (Dl → Mu → Prop) → Prop := fun as δ μ P => match as with
  | [] => False
  | a :: r => G a δ μ fun δ1 μ1 => Gs r δ1 μ1 P
theorem dgs_cons {g : TG} {gs : TGs} {G : DGx} {Gs} (h : DG X e g G vs) (h2 : DGs X es gs Gs vs) (hs : (assignEach (e :: es) X.env).map (·.2) = assign e X.env :: (assignEach es X.env).map (·.2) := by rfl) : DGs X (e :: es) (gCons g gs) (mgCons G Gs) vs :=
  ⟨pgs_cons h.pg h2.pgs hs, fun xs σ H Q as δ μ P R hm r m c => by
    cases as with
    | nil => exact m.elim
    | cons a ar =>
    have m : G a δ μ fun δ1 μ1 => Gs ar δ1 μ1 P := m
    cases r with
    | cons r1 rr =>
      exact ⟨_, _, rfl, h.sg _ σ H _ a δ μ _ R hm r1 m fun σ1 H1 δ1 μ1 e1 hm1 R1 w1 m1 => h2.sgs _ σ1 H1 Q ar δ1 μ1 P R1 hm1 (relAs_mono e1 rr) m1 fun σ2 H2 δ2 μ2 e2 hm2 R2 w2 m2 => c σ2 H2 δ2 μ2 (e1.trans e2) hm2 R2 (w2.trans w1) m2⟩⟩
def mgTup (n : Nat) (Gs : List AV → Dl → Mu → (Dl → Mu → Prop) → Prop) : DGx := fun a δ μ P => ∃ ds, a = .dat (.tuple ds) ∧ ds.length = n ∧ Gs (ds.map AV.dat) δ μ P
theorem dg_tup {K : PySem.W.Frag} {k : Nat} {gs : TGs} {Gs} {n : Nat} (hK : X.K = K) (hc : X.calm = true) (h : DGs X es gs Gs vs) (hn : (assignEach es X.env).length = n := by rfl) (hst : (assignEach es X.env).findIdx? (·.1) = none := by rfl) : DG X (.Tuple es k pos) (gTup K n gs) (mgTup n Gs) vs := by
  subst hK
  exact ⟨pg_tup hc h.pgs hn hst, fun v σ H Q a δ μ P R hm r ⟨ds, ea, hl, m⟩ c => by
    subst ea
    obtain ⟨p1, v1, rfl, h1, a1⟩ := dp_tuple r
    exact ⟨p1, v1, rfl, .inl (rd_mono (hid_same H μ) h1), by rw [dpAll_len a1]; exact hl, h.sgs v1 σ H Q _ δ μ P R hm (relAs_dat.mp a1) m c⟩⟩
/-- cells[k] = e: as a statement's target -/
def mgSub (Mo Mi : DEx) : DGx := fun a δ μ P => Mo δ μ fun o μ1 => ∃ p, o = .mut p ∧ Mi δ μ1 fun i μ2 => ∃ k as j, i = .dat (.int k) ∧ μ2 p = some (.lst as) ∧ ixN as.length k = some j ∧ P δ (mset μ2 p (some (.lst (as.set j a))))
theorem dg_sub {to ti : TE} {Mo Mi : DEx} (h : PG X e (gSub to ti rSetL)) (ho : SE X.K to Mo) (hi : SE X.K ti Mi) : DG X e (gSub to ti rSetL) (mgSub Mo Mi) vs :=
  ⟨h, fun v σ H Q a δ μ P R hm r m c => ho σ H _ δ μ _ R hm m fun x H1 av μ1 e1 hm1 r1 ⟨p, ea, m1⟩ => by
    subst ea
    cases (show x = .ref p from r1)
    refine hi σ H1 _ δ μ1 _ (R.mono e1) hm1 m1 fun y H2 bv μ2 e2 hm2 r2 ⟨k, as, j, eb, h2, hj, m2⟩ => ?_
    subst eb
    obtain ⟨zs, ez, rz⟩ := hm2.lst h2
    have hp := hid_cell (H := H2) h2
    refine ⟨p, zs, k, j, rfl, dp_int r2, ez, by rw [paired_len rz]; exact hj, ?_⟩
    have es : Same (hid H μ) (hid (upd H2 p (.lst (zs.set j v))) (mset μ2 p (some (.lst (as.set j a))))) := by
      rw [hid_store hp]
      exact e1.trans e2
    exact c σ _ δ _ es (hm2.store hp (paired_set (relA_mono (e1.trans e2) r) j rz)) (R.mono es) rfl m2⟩
/-! ### statements -/
structure DEnds where
  nx : Dl → Mu → Prop
  rt : DV
  bk : Dl → Mu → Prop := fun _ _ => False
  ct : Dl → Mu → Prop := fun _ _ => False
abbrev DSx := DEnds → Dl → Mu → Prop
def EO (K : PySem.W.Frag) (H : Hp) (μ : Mu) (p : Dl → Mu → Prop) (q : L2.St → Hp → Prop) : Prop := ∀ σ' H' δ' μ', Same (hid H μ) (hid H' μ') → HM K H' μ' → Rel K (hid H' μ') σ' δ' → p δ' μ' → q σ' H'
theorem EO.from {H H1 : Hp} {μ μ1 : Mu} {p : Dl → Mu → Prop} {q : L2.St → Hp → Prop} (c : EO K H μ p q) (e : Same (hid H μ) (hid H1 μ1)) : EO K H1 μ1 p q := fun σ' H' δ' μ' s => c σ' H' δ' μ' (e.trans s)
structure EOk (K : PySem.W.Frag) (H : Hp) (μ : Mu) (DD : DEnds) (D : Ends) : Prop where
  nx : EO K H μ DD.nx D.nx
  bk : EO K H μ DD.bk D.bk
  ct : EO K H μ DD.ct D.ct
  rt : Cont K H μ DD.rt D.rt
theorem EOk.from {H H1 : Hp} {μ μ1 : Mu} {DD : DEnds} {D : Ends} (c : EOk K H μ DD D) (e : Same (hid H μ) (hid H1 μ1)) : EOk K H1 μ1 DD D := ⟨c.nx.from e, c.bk.from e, c.ct.from e, c.rt.from e⟩
def SS (K : PySem.W.Frag) (t : TS) (M : DSx) : Prop := ∀ σ H D δ μ DD, Rel K (hid H μ) σ δ → HM K H μ → M DD δ μ → EOk K H μ DD D → t D σ H
structure DS (X : Cx) (st : Stmt) (t : TS) (M : DSx) : Prop where
  ps : PS X st t
  ss : SS X.K t M
structure DB (X : Cx) (st : List Stmt) (t : TS) (M : DSx) : Prop where
  ps : PSs X st t
  ss : SS X.K t M
variable {st : Stmt} {rest body : List Stmt} {t u : TS} {M M' : DSx}
def mNext : DSx := fun D δ μ => D.nx δ μ
theorem db_nil : DB X [] tNext mNext := ⟨pss_nil, fun σ H D δ μ DD R hm m c => c.nx σ H δ μ (Same.refl _) hm R m⟩
def mSeq (M M' : DSx) : DSx := fun D δ μ => M { D with nx := M' D } δ μ
theorem db_cons (h : DS X st t M) (h2 : DB X rest u M') : DB X (st :: rest) (tSeq t u) (mSeq M M') := ⟨pss_cons h.ps h2.ps, fun σ H D δ μ DD R hm m c => h.ss σ H _ δ μ _ R hm m ⟨fun σ' H' δ' μ' e hm' R' m' => h2.ss σ' H' D δ' μ' DD R' hm' m' (c.from e), c.bk, c.ct, c.rt⟩⟩
theorem db_one (h : DS X st t M) : DB X [st] t M := ⟨pss_one h.ps, h.ss⟩
def mRet (Me : DEx) : DSx := fun D δ μ => Me δ μ D.rt
theorem ds_ret (h : DE X e te Me) : DS X (.Return (some e) pos) (tRet te) (mRet Me) := ⟨ps_ret h.pe, fun σ H D δ μ DD R hm m c => h.se σ H D.rt δ μ DD.rt R hm m c.rt⟩
def mExpr (Me : DEx) : DSx := fun D δ μ => Me δ μ fun _ μ1 => D.nx δ μ1
theorem ds_expr (h : DE X e te Me) (hs : swapsWith e none pos.line X.env = pure false := by rfl) : DS X (.Expr e pos) (tDrop te) (mExpr Me) := ⟨ps_expr h.pe hs, fun σ H D δ μ DD R hm m c => h.se σ H _ δ μ _ R hm m fun v H1 a μ1 e1 hm1 r1 m1 => c.nx σ H1 δ μ1 e1 hm1 (R.mono e1) m1⟩
def mIfS (MT : DTx) (M M' : DSx) : DSx := fun D δ μ => MT δ μ fun k μ1 => if k = true then M D δ μ1 else M' D δ μ1
theorem ds_if {c : Expr} {tc : TT} {MT : DTx} {xs ys : List Stmt} (hc : DT X c tc MT) (h : DB X xs t M) (h2 : DB X ys u M') : DS X (.If c xs ys pos) (tIfS tc t u) (mIfS MT M M') := ⟨ps_if hc.pt h.ps h2.ps, fun σ H D δ μ DD R hm m c => hc.st σ H _ δ μ _ R hm m fun k H1 μ1 e1 hm1 m1 => by
  cases k with
  | true => exact h.ss σ H1 D δ μ1 DD (R.mono e1) hm1 m1 (c.from e1)
  | false => exact h2.ss σ H1 D δ μ1 DD (R.mono e1) hm1 m1 (c.from e1)⟩
def mAsg (Me : DEx) (G : DGx) : DSx := fun D δ μ => Me δ μ fun a μ1 => G a δ μ1 D.nx
theorem ss_asg {g : TG} {G : DGx} (h : SE K te Me) (hg : SG K g G vs) : SS K (tAsg te g) (mAsg Me G) := fun σ H D δ μ DD R hm m c =>
  h σ H _ δ μ _ R hm m fun v H1 a μ1 e1 hm1 r1 m1 => hg v σ H1 D.nx a δ μ1 DD.nx (R.mono e1) hm1 r1 m1 fun σ2 H2 δ2 μ2 e2 hm2 R2 _ m2 => c.nx σ2 H2 δ2 μ2 (e1.trans e2) hm2 R2 m2
theorem ds_asg {tg : Expr} {g : TG} {G : DGx} (h : DE X e te Me) (hg : DG X tg g G vs) (hs : swapsWithSole [tg] e pos.line X.env = pure false := by rfl) (hw : swappedStores [tg] e X.env = pure none := by rfl)
    (h1 : (assignEach [tg] X.env).map (·.2) = [assign tg X.env] := by rfl) : DS X (.Assign [tg] e pos) (tAsg te g) (mAsg Me G) := ⟨ps_asg h.pe hg.pg hs hw h1, ss_asg h.se hg.sg⟩
theorem ds_set {i : Nat} (h : PS X st (tAsg te (gName i))) (he : SE X.K te Me) : DS X st (tAsg te (gName i)) (mAsg Me (mgName i)) := ⟨h, ss_asg (vs := [i]) he fun v σ H Q a δ μ P R hm r m c => c _ H _ μ (Same.refl _) hm (R.set i r) (wipe_set (by simp)) m⟩
def mPar (i j : Nat) (MA : DAx) : DSx := fun D δ μ => MA δ μ fun as μ1 => ∃ a b, as = [a, b] ∧ D.nx ((δ.set i (some a)).set j (some b)) μ1
theorem ds_par {i j : Nat} {ta : TA} {MA : DAx} (h : PS X st (tPar i j ta)) (ha : SA X.K ta MA) : DS X st (tPar i j ta) (mPar i j MA) := ⟨h, fun σ H D δ μ DD R hm m c => ha σ H _ δ μ _ R hm m fun xs H1 as μ1 e1 hm1 r1 ⟨a, b, ea, m1⟩ => by
  subst ea
  obtain ⟨v, w, rfl, rv, rw'⟩ := relAs2 r1
  exact ⟨v, w, rfl, c.nx _ H1 _ μ1 e1 hm1 (((R.mono e1).set i rv).set j rw') m1⟩⟩
theorem relAs3 {H : Hp} {vs : List V} {a b c : AV} (h : RelAs K H vs [a, b, c]) : ∃ v w u, vs = [v, w, u] ∧ RelA K H v a ∧ RelA K H w b ∧ RelA K H u c := by
  cases h with
  | cons r t =>
    obtain ⟨w, u, rfl, r2, r3⟩ := relAs2 t
    exact ⟨_, _, _, rfl, r, r2, r3⟩
def mPar3 (i j l : Nat) (MA : DAx) : DSx := fun D δ μ => MA δ μ fun as μ1 => ∃ a b c, as = [a, b, c] ∧ D.nx (((δ.set i (some a)).set j (some b)).set l (some c)) μ1
theorem ds_par3 {i j l : Nat} {ta : TA} {MA : DAx} (h : PS X st (tPar3 i j l ta)) (ha : SA X.K ta MA) : DS X st (tPar3 i j l ta) (mPar3 i j l MA) := ⟨h, fun σ H D δ μ DD R hm m c => ha σ H _ δ μ _ R hm m fun xs H1 as μ1 e1 hm1 r1 ⟨a, b, d, ea, m1⟩ => by
  subst ea
  obtain ⟨v, w, z, rfl, rv, rw', rz⟩ := relAs3 r1
  exact ⟨v, w, z, rfl, c.nx _ H1 _ μ1 e1 hm1 ((((R.mono e1).set i rv).set j rw').set l rz) m1⟩⟩
/-! ### loops, comprehensions -/
structure DWk (K : PySem.W.Frag) (J : It) (ds : List PyData) (H0 : Hp) (μ0 : Mu) : Prop where
  goes : ∀ i H μ, i < ds.length → Same (hid H0 μ0) (hid H μ) → J.go i H
  stops : ∀ H μ, Same (hid H0 μ0) (hid H μ) → J.stop ds.length H
  yields : ∀ i H μ x H', i < ds.length → Same (hid H0 μ0) (hid H μ) → HM K H μ → J.yld i H x H' → ∃ d, ds[i]? = some d ∧ Same (hid H μ) (hid H' μ) ∧ HM K H' μ ∧ Dp K0 (hid H' μ) x d
abbrev DIx := Dl → Mu → (List PyData → Mu → Prop) → Prop
def SI (K : PySem.W.Frag) (wi : TI) (M : DIx) : Prop := ∀ σ H R δ μ P, Rel K (hid H μ) σ δ → HM K H μ → M δ μ P → (∀ J H' ds μ', Same (hid H μ) (hid H' μ') → HM K H' μ' → DWk K J ds H' μ' → P ds μ' → R J H') → wi σ H R
structure DI (X : Cx) (tg iter : Expr) (wi : TI) (M : DIx) : Prop where
  pi : PI X tg iter wi
  si : SI X.K wi M
variable {tg iter : Expr}
def miL (Me : DEx) : DIx := fun δ μ P => Me δ μ fun a μ1 => ∃ ds, a = .dat (.list ds) ∧ P ds μ1
def miT (Me : DEx) : DIx := fun δ μ P => Me δ μ fun a μ1 => ∃ ds, a = .dat (.tuple ds) ∧ P ds μ1
theorem wk_list {H : Hp} {μ : Mu} {p : Addr} {xs : List V} {ds : List PyData} (h : Rd (hid H μ) p (.lst xs)) (r : DpAll K0 (hid H μ) xs ds) : DWk K (Itl K p) ds H μ where
  goes := fun i H1 μ1 hi e => by
    obtain ⟨v, hv, _⟩ := dpAll_get r (List.getElem?_eq_getElem hi)
    exact ⟨xs, v, .inl (rd_mono (e.trans (hid_same _ _)) h), hv⟩
  stops := fun H1 μ1 e => ⟨xs, .inl (rd_mono (e.trans (hid_same _ _)) h), by rw [dpAll_len r]; exact Nat.le_refl _⟩
  yields := fun i H1 μ1 x H' hi e hm y => by
    obtain ⟨rfl, y⟩ := y
    obtain ⟨d, hd, rd⟩ := dpAll_getV r (y xs (.inl (rd_mono (e.trans (hid_same _ _)) h)))
    exact ⟨d, hd, Same.refl _, hm, dp_mono e rd⟩
theorem wk_tup {H : Hp} {μ : Mu} {p : Addr} {xs : List V} {ds : List PyData} (h : Rd (hid H μ) p (.tup xs)) (r : DpAll K0 (hid H μ) xs ds) : DWk K (Itt K p) ds H μ where
  goes := fun i H1 μ1 hi e => by
    obtain ⟨v, hv, _⟩ := dpAll_get r (List.getElem?_eq_getElem hi)
    exact ⟨xs, v, .inl (rd_mono (e.trans (hid_same _ _)) h), hv⟩
  stops := fun H1 μ1 e => ⟨xs, .inl (rd_mono (e.trans (hid_same _ _)) h), by rw [dpAll_len r]; exact Nat.le_refl _⟩
  yields := fun i H1 μ1 x H' hi e hm y => by
    obtain ⟨rfl, y⟩ := y
    obtain ⟨d, hd, rd⟩ := dpAll_getV r (y xs (.inl (rd_mono (e.trans (hid_same _ _)) h)))
    exact ⟨d, hd, Same.refl _, hm, dp_mono e rd⟩
theorem di_list (h : DE X iter te Me) : DI X tg iter (iList X.K te) (miL Me) := ⟨pi_list h.pe, fun σ H R δ μ P Rl hm m c => h.se σ H _ δ μ _ Rl hm m fun v H1 a μ1 e1 hm1 r1 ⟨ds, ea, m1⟩ => by
  subst ea
  obtain ⟨p1, v1, rfl, h1, a1⟩ := dp_list r1
  exact ⟨p1, rfl, ⟨v1, .inl (rd_mono (hid_same _ _) h1)⟩, c _ H1 ds μ1 e1 hm1 (wk_list h1 a1) m1⟩⟩
theorem di_tup (h : DE X iter te Me) : DI X tg iter (iTup X.K te) (miT Me) := ⟨pi_tup h.pe, fun σ H R δ μ P Rl hm m c => h.se σ H _ δ μ _ Rl hm m fun v H1 a μ1 e1 hm1 r1 ⟨ds, ea, m1⟩ => by
  subst ea
  obtain ⟨p1, v1, rfl, h1, a1⟩ := dp_tuple r1
  exact ⟨p1, rfl, ⟨v1, .inl (rd_mono (hid_same _ _) h1)⟩, c _ H1 ds μ1 e1 hm1 (wk_tup h1 a1) m1⟩⟩
/-- the signsD of a text -/
def signsD (z : Str) : List PyData := z.cps.toList.map fun c => .str ⟨#[c]⟩
def miS (Me : DEx) : DIx := fun δ μ P => Me δ μ fun a μ1 => ∃ z, a = .dat (.str z) ∧ P (signsD z) μ1
theorem signsD_len (z : Str) : (signsD z).length = z.cps.size := by
  unfold signsD
  rw [List.length_map, Array.length_toList]
theorem wk_str {H : Hp} {μ : Mu} {z : Str} : DWk K (Its z) (signsD z) H μ where
  goes := fun i H1 μ1 hi e => by
    rw [signsD_len] at hi
    exact hi
  stops := fun H1 μ1 e => by
    show z.cps.size ≤ (signsD z).length
    rw [signsD_len]
    exact Nat.le_refl _
  yields := fun i H1 μ1 x H' hi e hm y => by
    obtain ⟨rfl, c, hc, rfl⟩ := y
    refine ⟨.str ⟨#[c]⟩, ?_, Same.refl _, hm, .str _⟩
    unfold signsD
    rw [List.getElem?_map, Array.getElem?_toList, hc]
    rfl
theorem di_str (h : DE X iter te Me) (hp : PI X tg iter (iStr te)) : DI X tg iter (iStr te) (miS Me) := ⟨hp, fun σ H R δ μ P Rl hm m c => h.se σ H _ δ μ _ Rl hm m fun v H1 a μ1 e1 hm1 r1 ⟨z, ea, m1⟩ => by
  subst ea
  exact ⟨z, dp_str r1, c _ H1 _ μ1 e1 hm1 wk_str m1⟩⟩
def rangeD (lo : Int) (n : Nat) : List PyData := (List.range n).map fun i => .int (lo + (i : Nat))
theorem wk_range {H : Hp} {μ : Mu} {lo : Int} {n : Nat} : DWk K (Itr lo n) (rangeD lo n) H μ where
  goes := fun i H1 μ1 hi e => by
    have hi' : i < n := by simpa [rangeD] using hi
    exact hi'
  stops := fun H1 μ1 e => by
    show n ≤ (rangeD lo n).length
    simp [rangeD]
  yields := fun i H1 μ1 x H' hi e hm y => by
    obtain ⟨rfl, rfl⟩ := y
    have hi' : i < n := by simpa [rangeD] using hi
    refine ⟨.int (lo + i), ?_, Same.refl _, hm, .int _⟩
    unfold rangeD
    rw [List.getElem?_map, List.getElem?_range hi']
    rfl
def miR (MA : DAx) : DIx := fun δ μ P => MA δ μ fun as μ1 => ∃ j : Int, as = [.dat (.int j)] ∧ -(2 ^ 62) ≤ j ∧ j < 2 ^ 62 ∧ P (rangeD 0 j.toNat) μ1
theorem di_range {ta : TA} {MA : DAx} (hp : PI X tg iter (iRng1 ta)) (h : SA X.K ta MA) : DI X tg iter (iRng1 ta) (miR MA) := ⟨hp, fun σ H R δ μ P Rl hm m c => h σ H _ δ μ _ Rl hm m fun xs H1 as μ1 e1 hm1 r1 ⟨j, ea, h1, h2, m1⟩ => by
  subst ea
  obtain ⟨v, rfl, rv⟩ := relAs1 r1
  rw [dp_int rv]
  exact ⟨j, rfl, h1, h2, c _ H1 _ μ1 e1 hm1 wk_range m1⟩⟩
/-- pairs that are laid anew at each turn -/
theorem pair_new {H : Hp} {μ : Mu} (hm : HM K H μ) {T : Addr} (n : H T = none) {x y : V} {d e : PyData} (r1 : Dp K0 (hid H μ) x d) (r2 : Dp K0 (hid H μ) y e) :
    Same (hid H μ) (hid (upd H T (.tup [x, y])) μ) ∧ HM K (upd H T (.tup [x, y])) μ ∧ Dp K0 (hid (upd H T (.tup [x, y])) μ) (.ref T) (.tuple [d, e]) :=
  ⟨hid_new hm n _, hm.new n _, rel_tup (K := K) hm n (.cons r1 (.cons r2 .nil))⟩
def enumD (ds : List PyData) : List PyData := (List.range ds.length).zipWith (fun i d => .tuple [.int (i : Nat), d]) ds
theorem enumD_len (ds : List PyData) : (enumD ds).length = ds.length := by simp [enumD]
theorem wk_enum {H : Hp} {μ : Mu} {p : Addr} {xs : List V} {ds : List PyData} (h : Rd (hid H μ) p (.lst xs)) (r : DpAll K0 (hid H μ) xs ds) : DWk K (Ite K p) (enumD ds) H μ where
  goes := fun i H1 μ1 hi e => by
    rw [enumD_len] at hi
    obtain ⟨v, hv, _⟩ := dpAll_get r (List.getElem?_eq_getElem hi)
    exact ⟨xs, v, .inl (rd_mono (e.trans (hid_same _ _)) h), hv⟩
  stops := fun H1 μ1 e => ⟨xs, .inl (rd_mono (e.trans (hid_same _ _)) h), by rw [dpAll_len r, enumD_len]; exact Nat.le_refl _⟩
  yields := fun i H1 μ1 x H' hi e hm y => by
    rw [enumD_len] at hi
    obtain ⟨T, z, rfl, n, rfl, y⟩ := y
    obtain ⟨d, hd, rd⟩ := dpAll_getV r (y xs (.inl (rd_mono (e.trans (hid_same _ _)) h)))
    obtain ⟨q1, q2, q3⟩ := pair_new hm n (.int ((i : Nat) : Int)) (dp_mono e rd)
    refine ⟨_, ?_, q1, q2, q3⟩
    unfold enumD
    rw [List.getElem?_zipWith, List.getElem?_range hi, hd]
def miE (MA : DAx) : DIx := fun δ μ P => MA δ μ fun as μ1 => ∃ ds, as = [.dat (.list ds)] ∧ P (enumD ds) μ1
theorem di_enum {ta : TA} {MA : DAx} (hp : PI X tg iter (iEnum X.K ta)) (h : SA X.K ta MA) : DI X tg iter (iEnum X.K ta) (miE MA) := ⟨hp, fun σ H R δ μ P Rl hm m c => h σ H _ δ μ _ Rl hm m fun xs H1 as μ1 e1 hm1 r1 ⟨ds, ea, m1⟩ => by
  subst ea
  obtain ⟨v, rfl, rv⟩ := relAs1 r1
  obtain ⟨p1, v1, rfl, h1, a1⟩ := dp_list rv
  exact ⟨p1, v1, rfl, .inl (rd_mono (hid_same _ _) h1), c _ H1 _ μ1 e1 hm1 (wk_enum h1 a1) m1⟩⟩
def zipD (ds es : List PyData) : List PyData := List.zipWith (fun d e => .tuple [d, e]) ds es
theorem wk_zip {H : Hp} {μ : Mu} {p q : Addr} {xs ys : List V} {ds es : List PyData} (h : Rd (hid H μ) p (.lst xs)) (r : DpAll K0 (hid H μ) xs ds) (h2 : Rd (hid H μ) q (.lst ys)) (r2 : DpAll K0 (hid H μ) ys es) : DWk K (Itz K p q) (zipD ds es) H μ where
  goes := fun i H1 μ1 hi e => by
    simp only [zipD, List.length_zipWith] at hi
    obtain ⟨v, hv, _⟩ := dpAll_get r (List.getElem?_eq_getElem (show i < ds.length by omega))
    obtain ⟨v2, hv2, _⟩ := dpAll_get r2 (List.getElem?_eq_getElem (show i < es.length by omega))
    exact ⟨xs, ys, v, v2, .inl (rd_mono (e.trans (hid_same _ _)) h), .inl (rd_mono (e.trans (hid_same _ _)) h2), hv, hv2⟩
  stops := fun H1 μ1 e => ⟨xs, ys, .inl (rd_mono (e.trans (hid_same _ _)) h), .inl (rd_mono (e.trans (hid_same _ _)) h2), by rw [dpAll_len r, dpAll_len r2]; simp only [zipD, List.length_zipWith]; omega⟩
  yields := fun i H1 μ1 x H' hi e hm y => by
    obtain ⟨T, z, z2, rfl, n, rfl, y, y2⟩ := y
    obtain ⟨d, hd, rd⟩ := dpAll_getV r (y xs (.inl (rd_mono (e.trans (hid_same _ _)) h)))
    obtain ⟨d2, hd2, rd2⟩ := dpAll_getV r2 (y2 ys (.inl (rd_mono (e.trans (hid_same _ _)) h2)))
    obtain ⟨q1, q2, q3⟩ := pair_new hm n (dp_mono e rd) (dp_mono e rd2)
    refine ⟨_, ?_, q1, q2, q3⟩
    unfold zipD
    rw [List.getElem?_zipWith, hd, hd2]
theorem wk_zipT {H : Hp} {μ : Mu} {p q : Addr} {xs ys : List V} {ds es : List PyData} (h : Rd (hid H μ) p (.tup xs)) (r : DpAll K0 (hid H μ) xs ds) (h2 : Rd (hid H μ) q (.tup ys)) (r2 : DpAll K0 (hid H μ) ys es) : DWk K (ItzT K p q) (zipD ds es) H μ where
  goes := fun i H1 μ1 hi e => by
    simp only [zipD, List.length_zipWith] at hi
    obtain ⟨v, hv, _⟩ := dpAll_get r (List.getElem?_eq_getElem (show i < ds.length by omega))
    obtain ⟨v2, hv2, _⟩ := dpAll_get r2 (List.getElem?_eq_getElem (show i < es.length by omega))
    exact ⟨xs, ys, v, v2, .inl (rd_mono (e.trans (hid_same _ _)) h), .inl (rd_mono (e.trans (hid_same _ _)) h2), hv, hv2⟩
  stops := fun H1 μ1 e => ⟨xs, ys, .inl (rd_mono (e.trans (hid_same _ _)) h), .inl (rd_mono (e.trans (hid_same _ _)) h2), by rw [dpAll_len r, dpAll_len r2]; simp only [zipD, List.length_zipWith]; omega⟩
  yields := fun i H1 μ1 x H' hi e hm y => by
    obtain ⟨T, z, z2, rfl, n, rfl, y, y2⟩ := y
    obtain ⟨d, hd, rd⟩ := dpAll_getV r (y xs (.inl (rd_mono (e.trans (hid_same _ _)) h)))
    obtain ⟨d2, hd2, rd2⟩ := dpAll_getV r2 (y2 ys (.inl (rd_mono (e.trans (hid_same _ _)) h2)))
    obtain ⟨q1, q2, q3⟩ := pair_new hm n (dp_mono e rd) (dp_mono e rd2)
    refine ⟨_, ?_, q1, q2, q3⟩
    unfold zipD
    rw [List.getElem?_zipWith, hd, hd2]
def zipAs : List AV → Option (List PyData)
  | [.dat (.list ds), .dat (.list es)] => some (zipD ds es)
  | [.dat (.tuple ds), .dat (.tuple es)] => some (zipD ds es)
  | _ => none
theorem zipAs_eq {as : List AV} {zs : List PyData} (h : zipAs as = some zs) : ∃ ds es, (as = [.dat (.list ds), .dat (.list es)] ∨ as = [.dat (.tuple ds), .dat (.tuple es)]) ∧ zs = zipD ds es := by
  unfold zipAs at h
  split at h
  · cases h
    exact ⟨_, _, .inl rfl, rfl⟩
  · cases h
    exact ⟨_, _, .inr rfl, rfl⟩
  · cases h
def miZ (MA : DAx) : DIx := fun δ μ P => MA δ μ fun as μ1 => ∃ zs, zipAs as = some zs ∧ P zs μ1
theorem di_zip {ta : TA} {MA : DAx} (hp : PI X tg iter (iZipA X.K ta)) (h : SA X.K ta MA) : DI X tg iter (iZipA X.K ta) (miZ MA) := ⟨hp, fun σ H R δ μ P Rl hm m c => h σ H _ δ μ _ Rl hm m fun xs H1 as μ1 e1 hm1 r1 ⟨zs, ez, m1⟩ => by
  obtain ⟨ds, es, ea, rfl⟩ := zipAs_eq ez
  rcases ea with ea | ea
  · subst ea
    obtain ⟨v, w, rfl, rv, rw'⟩ := relAs2 r1
    obtain ⟨p1, v1, rfl, h1, a1⟩ := dp_list rv
    obtain ⟨p2, v2, rfl, h2, a2⟩ := dp_list rw'
    exact ⟨p1, p2, v1, v2, rfl, .inl ⟨.inl (rd_mono (hid_same _ _) h1), .inl (rd_mono (hid_same _ _) h2), c _ H1 _ μ1 e1 hm1 (wk_zip h1 a1 h2 a2) m1⟩⟩
  · subst ea
    obtain ⟨v, w, rfl, rv, rw'⟩ := relAs2 r1
    obtain ⟨p1, v1, rfl, h1, a1⟩ := dp_tuple rv
    obtain ⟨p2, v2, rfl, h2, a2⟩ := dp_tuple rw'
    exact ⟨p1, p2, v1, v2, rfl, .inr ⟨.inl (rd_mono (hid_same _ _) h1), .inl (rd_mono (hid_same _ _) h2), c _ H1 _ μ1 e1 hm1 (wk_zipT h1 a1 h2 a2) m1⟩⟩⟩
def mFor (MI : DIx) (G : DGx) (M : DSx) : DSx := fun D δ μ => MI δ μ fun ds μ1 => ∃ W : Nat → Dl → Mu → Prop, W 0 δ μ1 ∧
  (∀ i d δ' μ', ds[i]? = some d → W i δ' μ' → G (.dat d) δ' μ' fun δ2 μ2 => M { D with nx := W (i + 1), ct := W (i + 1), bk := D.nx } δ2 μ2) ∧ ∀ δ' μ', W ds.length δ' μ' → D.nx δ' μ'
theorem ds_for {wi : TI} {MI : DIx} {g : TG} {G : DGx} (hp : PassesOwn (model X.prog X.w) X.A X.env X.xe) (hc : X.calm = true) (hi : DI X tg iter wi MI) (hg : DG X tg g G vs) (hb : DB X body t M) (hs : ∀ x, foldedSetIterable iter X.env x = pure x := by intro _; rfl) :
    DS X (.For tg iter body [] pos) (tFor wi g t) (mFor MI G M) := ⟨ps_for hp hc hi.pi hg.pg hb.ps hs, fun σ H D δ μ DD R hm m c => hi.si σ H _ δ μ _ R hm m fun J H1 ds μ1 e1 hm1 wk ⟨W, w0, turn, done⟩ => by
  refine ⟨fun i k σ' H' => k = ds.length - i ∧ i ≤ ds.length ∧ ∃ δ' μ', Same (hid H1 μ1) (hid H' μ') ∧ HM X.K H' μ' ∧ Rel X.K (hid H' μ') σ' δ' ∧ W i δ' μ',
    ⟨ds.length, by simp, Nat.zero_le _, δ, μ1, Same.refl _, hm1, R.mono e1, w0⟩, ?_⟩
  rintro i k σ' H' ⟨rfl, hi, δ', μ', e', hm', R', w'⟩
  by_cases hlt : i < ds.length
  · refine .inr ⟨wk.goes i H' μ' hlt e', fun σ2 H2 => ∃ δ2 μ2, Same (hid H1 μ1) (hid H2 μ2) ∧ HM X.K H2 μ2 ∧ Rel X.K (hid H2 μ2) σ2 δ2 ∧ W (i + 1) δ2 μ2, fun σ2 H2 q => ⟨ds.length - (i + 1), by omega, rfl, hlt, q⟩, fun x H2 y => ?_⟩
    obtain ⟨d, hd, es, hm2, rd⟩ := wk.yields i H' μ' x H2 hlt e' hm' y
    refine hg.sg x σ' H2 _ (.dat d) δ' μ' _ (R'.mono es) hm2 rd (turn i d δ' μ' hd w') fun σ3 H3 δ3 μ3 e3 hm3 R3 _ m3 => ?_
    have e13 := (e'.trans es).trans e3
    refine hb.ss σ3 H3 _ δ3 μ3 _ R3 hm3 m3 ⟨fun σ4 H4 δ4 μ4 e4 hm4 R4 w4 => ⟨δ4, μ4, e13.trans e4, hm4, R4, w4⟩, (c.nx.from e1).from e13, fun σ4 H4 δ4 μ4 e4 hm4 R4 w4 => ⟨δ4, μ4, e13.trans e4, hm4, R4, w4⟩, (c.rt.from e1).from e13⟩
  · have ei : i = ds.length := by omega
    subst ei
    exact .inl ⟨wk.stops H' μ' e', c.nx σ' H' δ' μ' (e1.trans e') hm' R' (done δ' μ' w')⟩⟩
abbrev cellA (acc : List PyData) : Option MO := some (.lst (acc.map AV.dat))
def mLc (MI : DIx) (G : DGx) (MT : DTx) (ME : DEx) (vs : List Nat) : DEx := fun δ μ P => MI δ μ fun ds μ1 => ds.length ≤ sizeLine ∧ ∀ D, μ1 D = none → ∃ W : Nat → List PyData → Mu → Prop, W 0 [] (mset μ1 D (cellA [])) ∧
  (∀ i d acc μ', ds[i]? = some d → W i acc μ' → μ' D = cellA acc → G (.dat d) (wipeD δ vs) μ' fun δ2 μ2 => MT δ2 μ2 fun b μ3 =>
    if b = true then ME δ2 μ3 fun a μ4 => ∃ e, a = .dat e ∧ μ4 D = cellA acc ∧ W (i + 1) (acc ++ [e]) (mset μ4 D (cellA (acc ++ [e]))) else μ3 D = cellA acc ∧ W (i + 1) acc μ3) ∧
  ∀ acc μ', W ds.length acc μ' → μ' D = cellA acc → P (.dat (.list acc)) (mset μ' D none)
structure DTs (X : Cx) (ifs : List Expr) (t : TT) (M : DTx) : Prop where
  pts : PTs X ifs t
  st : ST X.K t M
theorem dts_nil : DTs X [] tYes (fun _ μ P => P true μ) := ⟨pts_nil, fun σ H Q δ μ P R hm m c => c true H μ (Same.refl _) hm m⟩
theorem dts_one {c : Expr} {tc : TT} {MT : DTx} (h : DT X c tc MT) : DTs X [c] tc MT := ⟨pts_one h.pt, h.st⟩
theorem se_lc {wi : TI} {MI : DIx} {g : TG} {G : DGx} {tt : TT} {MT : DTx} {ME : DEx} (hi : SI K wi MI) (hg : SG K g G vs) (ht : ST K tt MT) (he : SE K te ME) : SE K (tLc wi g tt te vs) (mLc MI G MT ME vs) := fun σ H Q δ μ P R hm m c => by
  refine hi σ H _ δ μ _ R hm m fun J H1 ds μ1 e1 hm1 wk ⟨hz, m1⟩ D nD => ?_
  have hD : hid H1 μ1 D = none := by rw [hid_none (hm1.ne nD)]; exact nD
  obtain ⟨W, w0, turn, done⟩ := m1 D (hm1.ne nD)
  refine ⟨fun i k H' => k = ds.length - i ∧ i ≤ ds.length ∧ ∃ acc μ', Same (hid H1 μ1) (hid H' μ') ∧ HM K H' μ' ∧ μ' D = cellA acc ∧ acc.length ≤ i ∧ W i acc μ',
    ⟨ds.length, by simp, Nat.zero_le _, [], _, by rw [hid_store hD]; exact Same.refl _, hm1.store hD .nil, mset_same, Nat.le_refl _, w0⟩, ?_⟩
  rintro i k H' ⟨rfl, hi', acc, μ', e', hm', hc, hl, w'⟩
  by_cases hlt : i < ds.length
  · refine .inr ⟨wk.goes i H' μ' hlt e', fun H2 => ∃ acc μ2, Same (hid H1 μ1) (hid H2 μ2) ∧ HM K H2 μ2 ∧ μ2 D = cellA acc ∧ acc.length ≤ i + 1 ∧ W (i + 1) acc μ2, fun H2 q => ⟨ds.length - (i + 1), by omega, rfl, hlt, q⟩, fun x H2 y => ?_⟩
    obtain ⟨d, hd, es, hm2, rd⟩ := wk.yields i H' μ' x H2 hlt e' hm' y
    have e01 := e'.trans es
    refine hg x (wipe σ vs) H2 _ (.dat d) (wipeD δ vs) μ' _ ((R.mono (e1.trans e01)).wipe vs) hm2 rd (turn i d acc μ' hd w' hc) fun σ3 H3 δ3 μ3 e3 hm3 R3 w3 m3 => ?_
    refine ⟨w3.trans (by
      have q : ∀ ws : List Nat, wipe (wipe σ ws) ws = wipe σ ws := by
        intro ws
        induction ws with
        | nil => rfl
        | cons w ws ih =>
          have q2 : wipe (wipe σ (w :: ws)) (w :: ws) = wipe (wipe σ ws) (w :: ws) := by
            show wipe ((wipe σ ws).set w none) (w :: ws) = _
            exact wipe_set List.mem_cons_self
          rw [q2]
          show (wipe (wipe σ ws) ws).set w none = (wipe σ ws).set w none
          rw [ih]
      exact q vs), ht σ3 H3 _ δ3 μ3 _ R3 hm3 m3 fun b H4 μ4 e4 hm4 m4 => ?_⟩
    cases b with
    | false =>
      obtain ⟨hc4, w4⟩ := m4
      exact ⟨acc, μ4, (e01.trans e3).trans e4, hm4, hc4, by omega, w4⟩
    | true =>
      refine he σ3 H4 _ δ3 μ4 _ (R3.mono e4) hm4 m4 fun y5 H5 a5 μ5 e5 hm5 r5 ⟨d5, ea, hc5, w5⟩ => ?_
      subst ea
      obtain ⟨zs, ez, rz⟩ := hm5.lst hc5
      have hp := hid_cell (H := H5) hc5
      refine ⟨zs, ez, ?_, acc ++ [d5], _, ?_, hm5.store hp (xs := zs ++ [y5]) (as := (acc ++ [d5]).map AV.dat) ?_, mset_same, by rw [List.length_append]; simp; exact hl, w5⟩
      · have q := paired_len rz
        rw [List.length_map] at q
        omega
      · rw [hid_store hp]
        exact ((e01.trans e3).trans e4).trans e5
      · rw [List.map_append]
        exact paired_append rz (.cons r5 .nil)
  · have ei : i = ds.length := by omega
    subst ei
    refine .inl ⟨wk.stops H' μ' e', ?_⟩
    exact c _ H' (.dat (.list acc)) _ ((e1.trans e').trans (hid_freeze D)) (hm'.freeze D) (dp_freeze hm' hc) (done acc μ' w' hc)
theorem de_lc {elt : Expr} {ifs : List Expr} {scope : Scope} {own : List (Str × Nat)} {wi : TI} {MI : DIx} {g : TG} {G : DGx} {tt : TT} {MT : DTx} {ME : DEx} (hc : X.calm = true) (hN : X.N.Nodup) (hi : DI X tg iter wi MI) (ok : BlkOk X.N X.env.scope scope own)
    (hg : ∀ (s : Shared) (H : Hp) (C : Addr) (cl : List (Str × Addr)) (fp : List Addr), DG (X.blk s H scope (compEnvC scope cl C X.env) fp) tg g G (own.map (·.2))) (ht : ∀ (s : Shared) (H : Hp) (C : Addr) (cl : List (Str × Addr)) (fp : List Addr), DTs (X.blk s H scope (compEnvC scope cl C X.env) fp) ifs tt MT)
    (he : ∀ (s : Shared) (H : Hp) (C : Addr) (cl : List (Str × Addr)) (fp : List Addr), DE (X.blk s H scope (compEnvC scope cl C X.env) fp) elt te ME) (hs : ∀ x, foldedSetIterable iter X.env x = pure x := by intro _; rfl) :
    DE X (.ListComp elt [⟨tg, iter, ifs, 0⟩] scope pos) (tLc wi g tt te (own.map (·.2))) (mLc MI G MT ME (own.map (·.2))) :=
  ⟨pe_lc hc hN hi.pi ok (fun s H C cl fp => (hg s H C cl fp).pg) (fun s H C cl fp => (ht s H C cl fp).pts) (fun s H C cl fp => (he s H C cl fp).pe) hs,
    se_lc hi.si (hg X.s_0 X.H_0 0 [] []).sg (ht X.s_0 X.H_0 0 [] []).st (he X.s_0 X.H_0 0 [] []).se⟩
end
end DL


namespace DL
open PySem PySem.Spec PyProof.Rows L2 RZ
theorem hu64 {k : Nat} {A : Around} (h : Room k A) : A.units + 64 < cLine := by
  have := h.un
  omega
theorem hu65 {k : Nat} {A : Around} (h : Room k A) : A.units + 65 < cLine := by
  have := h.un
  omega
def startD (N : List Str) (as : List AV) : Dl := as.map some ++ List.replicate (N.length - as.length) none
theorem rel_start {K : PySem.W.Frag} {H : Hp} {N : List Str} {vs : List V} {as : List AV} (r : RelAs K H vs as) : Rel K H (L2.start N vs) (startD N as) := by
  have hl := paired_len r
  refine ⟨by unfold L2.start startD; simp [hl], fun i a h => ?_⟩
  unfold startD at h
  have hi : i < as.length := by
    by_cases hi : i < as.length
    · exact hi
    · rw [List.getElem?_append_right (by rw [List.length_map]; omega), List.getElem?_replicate] at h
      split at h <;> cases h
  rw [List.getElem?_append_left (by rw [List.length_map]; exact hi), List.getElem?_map] at h
  cases e : as[i]? with
  | none => rw [e] at h; cases h
  | some c =>
    rw [e] at h
    cases h
    obtain ⟨v, hv, rv⟩ := paired_get r e
    refine ⟨v, ?_, rv⟩
    unfold L2.start
    rw [List.getElem?_append_left (by rw [List.length_map]; omega), List.getElem?_map, hv]
    rfl
section
variable {P : Program} {w : World} {K : PySem.W.Frag} {mg : Str → Option Value} {base : Heap}
/-- a def's names for what it's given -/
abbrev argNames (fd : FuncData) : List Str := fd.params.args.map (·.arg)
/-- a def's promise by data, at what address it may stand -/
structure Prm (P : Program) (w : World) (K : PySem.W.Frag) (mg : Str → Option Value) (base : Heap) (k : Nat) (x : Str) (n : Nat) (d : DOs) : Prop where
  ex : ∃ f fd ps, FnG P w K mg base k f fd ps (spOf K n d) ∧ mg x = some (.ref f) ∧ PySem.W.keepIn K (.ref f) = true ∧ Binds K fd ps [] ∧ ps = argNames fd ∧ ∃ oc od osl, K.lookup f = some ⟨oc, od, .func fd, osl⟩
  hl : ∀ as μ Q, d as μ Q → as.length = n
structure PrmK (P : Program) (w : World) (K : PySem.W.Frag) (mg : Str → Option Value) (base : Heap) (k : Nat) (x : Str) (n : Nat) (ks : List Str) (d : DOs) : Prop where
  ex : ∃ f fd ps, FnG P w K mg base k f fd ps (spOf K n d) ∧ mg x = some (.ref f) ∧ PySem.W.keepIn K (.ref f) = true ∧ (∀ (s : Shared) (ws : List Value), ws.length = ps.length → BindsTo s fd ⟨[], ks.zip ws⟩ (ps.zip ws))
  hl : ∀ as μ Q, d as μ Q → as.length = n
/-- what the top has of a def -/
structure DefAt (K : PySem.W.Frag) (mg : Str → Option Value) (x : Str) (st : Stmt) (ps : List Str) (f : Addr) (fd : FuncData) : Prop where
  fn : Fun K x x st f fd
  at_ : mg x = some (.ref f)
  bd : Binds K fd ps []
  nm : ps = argNames fd
theorem DefAt.lk {K : PySem.W.Frag} {mg : Str → Option Value} {x : Str} {st : Stmt} {ps : List Str} {f : Addr} {fd : FuncData} (D : DefAt K mg x st ps f fd) : ∃ oc od osl, K.lookup f = some ⟨oc, od, .func fd, osl⟩ := by
  obtain ⟨oc, od, kV, doc, pm, an, cdv, ct, osl, _, h, _⟩ := D.fn.ex
  exact ⟨oc, od, osl, h⟩
theorem fng_by {k : Nat} {x : Str} {st : Stmt} {f : Addr} {fd : FuncData} {N ps : List Str} {n : Nat} {d : DOs} (F : Fun K x x st f fd) (S : FnScope N ps (defScope st)) (hn : ps.length = n)
    (body : ∀ (cdv : Value) (A : Around) (out : List Env) (s : Shared) (H : Hp), Room k (A.deeper (envOfC x (defScope st) s.heap.objs.size f cdv)) → A.guards = some [] →
      ∃ t M, DB (cxOf CX0 P w K mg base N x (defScope st) f cdv A out s H E0).nox (defBody st) t M ∧ ∀ as μ Q, d as μ Q → M { nx := fun _ μ' => Q (.dat .none) μ', rt := Q } (startD N as) μ) :
    FnG P w K mg base (k + 1) f fd ps (spOf K n d) := by
  refine fng_of F S (fun vs H Q h => h.1.trans hn.symm) fun cdv A out s H vs Q hr hg h => ?_
  obtain ⟨t, M, hb, hM⟩ := body cdv A out s H hr hg
  obtain ⟨_, as, μ, R, hm, ra, hd, c⟩ := h
  exact ⟨t, hb.ps, hb.ss _ H _ _ μ _ (rel_start ra) hm (hM as μ R hd) ⟨fun σ' H' δ' μ' e hm' _ q => c .non H' (.dat .none) μ' e hm' rN q, fun _ _ _ _ _ _ _ q => q.elim, fun _ _ _ _ _ _ _ q => q.elim, c⟩⟩
theorem prm_of {k : Nat} {x : Str} {st : Stmt} {f : Addr} {fd : FuncData} {N ps : List Str} {n : Nat} {d : DOs} (D : DefAt K mg x st ps f fd) (S : FnScope N ps (defScope st)) (hn : ps.length = n) (hl : ∀ as μ Q, d as μ Q → as.length = n)
    (body : ∀ (cdv : Value) (A : Around) (out : List Env) (s : Shared) (H : Hp), Room k (A.deeper (envOfC x (defScope st) s.heap.objs.size f cdv)) → A.guards = some [] →
      ∃ t M, DB (cxOf CX0 P w K mg base N x (defScope st) f cdv A out s H E0).nox (defBody st) t M ∧ ∀ as μ Q, d as μ Q → M { nx := fun _ μ' => Q (.dat .none) μ', rt := Q } (startD N as) μ) :
    Prm P w K mg base (k + 1) x n d := ⟨⟨f, fd, ps, fng_by D.fn S hn body, D.at_, D.fn.kp, D.bd, D.nm, D.lk⟩, hl⟩
theorem Prm.mono {j k : Nat} {x : Str} {n : Nat} {d : DOs} (p : Prm P w K mg base j x n d) (h : j ≤ k) : Prm P w K mg base k x n d := by
  obtain ⟨⟨f, fd, ps, F, r⟩, hl⟩ := p
  exact ⟨⟨f, fd, ps, F.mono h, r⟩, hl⟩
end
section
variable {X : Cx} {K : PySem.W.Frag} {a b e : Expr} {es : List Expr} {ta tb te to : TE} {t : TA} {Ma Mb Me Mo : DEx} {MA : DAx} {pos p apos cpos : Pos} {x : Str}
abbrev tCallD (K : PySem.W.Frag) (n : Nat) (d : DOs) (t : TA) : TE := fun σ H Q => t σ H fun vs H1 => spOf K n d vs H1 Q
theorem de_call {j n : Nat} {d : DOs} (q : Prm X.prog X.w X.K X.mg X.base j x n d) (hr : Room j X.A) (hg : X.A.guards = some []) (gl : Gl X x) (h : DA X (e :: es) t MA) (hdb : (x == ("__debug__" : Str)) = false := by decide)
    (he : starEach (e :: es) X.env = (false, eval e X.env) :: starEach es X.env := by rfl) (hpl : (backTo pos (starEach es X.env)).any (·.1) = false := by rfl) : DE X (.Call (.Name x p) (e :: es) [] pos) (tCallD X.K n d t) (mCall d MA) := by
  obtain ⟨⟨f, fd, ps, F, hm, hk, hb, _⟩, hl⟩ := q
  exact ⟨pe_callG F hr hg gl hm hk hb h.pa hdb he hpl, se_args (so_of hl) h.sa⟩
/-! the same within a comprehension: what they ask is told by the written part K, not by the block -/
theorem de_callC {P : Program} {w : World} {mg : Str → Option Value} {base : Heap} {j n : Nat} {d : DOs} (q : Prm P w K mg base j x n d) (h1 : X.prog = P) (h2 : X.w = w) (h3 : X.K = K) (h4 : X.mg = mg) (h5 : X.base = base) (hr : Room j X.A) (hg : X.A.guards = some []) (gl : Gl X x) (h : DA X (e :: es) t MA) (hdb : (x == ("__debug__" : Str)) = false := by decide)
    (he : starEach (e :: es) X.env = (false, eval e X.env) :: starEach es X.env := by rfl) (hpl : (backTo pos (starEach es X.env)).any (·.1) = false := by rfl) : DE X (.Call (.Name x p) (e :: es) [] pos) (tCallD K n d t) (mCall d MA) := by
  subst h1 h2 h3 h4 h5
  exact de_call q hr hg gl h hdb he hpl
theorem de_ixC (hK : X.K = K) (ha : DE X a ta Ma) (hb : DE X b tb Mb) (hs : PlainIx b) : DE X (.Subscript a b pos) (tOp (rIx K) ta tb) (mOp oIx Ma Mb) := by
  subst hK
  exact de_ix ha hb hs
theorem de_callBC {id : String} {rr : PySem.W.Frag → List V → Hp → VK → Prop} {d : DOs} (hK : X.K = K) (hc : CallR X (.builtin id) (rr X.K)) (hd : SOs K (rr K) d) (hg : Gl X x) (hm : X.mg x = none) (hv : bootBuiltins x = some (.builtin id)) (h : DA X (a :: es) t MA)
    (hn : x ≠ "__name__" := by decide) (hdb : (x == ("__debug__" : Str)) = false := by decide) (he : starEach (a :: es) X.env = (false, eval a X.env) :: starEach es X.env := by rfl) (hpl : (backTo pos (starEach es X.env)).any (·.1) = false := by rfl) :
    DE X (.Call (.Name x p) (a :: es) [] pos) (tCB (rr K) t) (mCall d MA) := by
  subst hK
  exact de_callB hc hd hg hm hv h hn hdb he hpl
abbrev rLen (K : PySem.W.Frag) : List V → Hp → VK → Prop := fun xs H Q => ∃ x n, xs = [x] ∧ LenV K x H n ∧ Q (.int n) H
structure DK (X : Cx) (kws : List Keyword) (t : TA) (M : DAx) : Prop where
  pk : PK X kws t
  sa : SA X.K t M
theorem dk_nil : DK X [] tNil mNil := ⟨pk_nil, fun _ H _ _ μ _ _ hm m c => c [] H [] μ (Same.refl _) hm .nil m⟩
theorem dk_cons {kws : List Keyword} {nm : Option Str} {kpos : Pos} (ha : DE X a ta Ma) (h : DK X kws t MA) : DK X (⟨nm, a, kpos⟩ :: kws) (tCons ta t) (mCons Ma MA) := ⟨pk_cons ha.pe h.pk, fun σ H Q δ μ P R hm m c =>
  ha.se σ H _ δ μ _ R hm m fun x H1 av μ1 e1 hm1 r1 m1 => h.sa σ H1 _ δ μ1 _ (R.mono e1) hm1 m1 fun xs H2 as μ2 e2 hm2 r2 m2 => c (x :: xs) H2 (av :: as) μ2 (e1.trans e2) hm2 (.cons (relA_mono e2 r1) r2) m2⟩
theorem de_callK {j n : Nat} {d : DOs} {ks : List Str} {kws : List Keyword} (q : PrmK X.prog X.w X.K X.mg X.base j x n ks d) (hr : Room j X.A) (hg : X.A.guards = some []) (gl : Gl X x) (h : DK X kws t MA)
    (hall : (backToKw pos (keywordEach kws X.env)).all (·.1.isSome) = true := by rfl) (hks : (backToKw pos (keywordEach kws X.env)).filterMap (·.1) = ks := by rfl)
    (hdb : (x == ("__debug__" : Str)) = false := by decide) (hpl : ((backTo pos (starEach [] X.env)).any (·.1) || (backToKw pos (keywordEach kws X.env)).any (·.1.isNone)) = false := by rfl) :
    DE X (.Call (.Name x p) [] kws pos) (tCallD X.K n d t) (mCall d MA) := by
  obtain ⟨⟨f, fd, ps, F, hm, hk, hb⟩, hl⟩ := q
  exact ⟨pe_callGK (g := id) (gu := id) F hr hg gl hm hk hb (fun r => r) h.pk hall hks hdb hpl, se_args (so_of hl) h.sa⟩
theorem pe_gc {v : V} (gl : Gl X x) (h : ∃ u, X.mg x = some u ∧ RelV v u) (hd : (x == ("__debug__" : Str)) = false := by decide) : PE X (.Name x pos) (tC v) := pe_glob gl h.choose_spec.1 h.choose_spec.2 hd
/-! statements in short -/
theorem ds_setE {i : Nat} {y : Str} {pos' : Pos} (hN : X.N.Nodup) (hi : X.N[i]? = some y) (hy : Loc X.env.scope y) (he : DE X e te Me) (hs : swapsWith e (some (.Name y pos')) pos.line X.env = pure false := by rfl)
    (hf : X.fn y = true ∨ X.env.scope.names.lookup y = some .local := by first | exact .inl rfl | exact .inr rfl | assumption) : DS X (.Assign [.Name y pos'] e pos) (tAsg te (gName i)) (mAsg Me (mgName i)) := ds_set (ps_set hN hi hy he.pe hs hf) he.se
theorem ds_parE {i j : Nat} {y z : Str} {px py pt : Pos} {kt k2 pt2} (hc : X.calm = true) (hN : X.N.Nodup) (hi : X.N[i]? = some y) (hj : X.N[j]? = some z) (hij : i ≠ j)
    (hx : X.env.scope.names.lookup y = some .local) (hy : X.env.scope.names.lookup z = some .local) (h : DA X [a, b] t MA)
    (hw : swappedStores [.Tuple [.Name y px, .Name z py] kt pt] (.Tuple [a, b] k2 pt2) X.env = pure (some [y, z]))
    (hs : swapsWithSole [.Tuple [.Name y px, .Name z py] kt pt] (.Tuple [a, b] k2 pt2) pos.line X.env = pure false := by rfl) :
    DS X (.Assign [.Tuple [.Name y px, .Name z py] kt pt] (.Tuple [a, b] k2 pt2) pos) (tPar i j t) (mPar i j MA) := ds_par (ps_par hc hN hi hj hij hx hy h.pa hw hs) h.sa
theorem ds_par3E {i j l : Nat} {y z u : Str} {c : Expr} {px py pz pt : Pos} {kt k2 pt2} (hc : X.calm = true) (hN : X.N.Nodup) (hi : X.N[i]? = some y) (hj : X.N[j]? = some z) (hl : X.N[l]? = some u) (hij : i ≠ j) (hil : i ≠ l) (hjl : j ≠ l)
    (hx : X.env.scope.names.lookup y = some .local) (hy : X.env.scope.names.lookup z = some .local) (hz : X.env.scope.names.lookup u = some .local) (h : DA X [a, b, c] t MA)
    (hw : swappedStores [.Tuple [.Name y px, .Name z py, .Name u pz] kt pt] (.Tuple [a, b, c] k2 pt2) X.env = pure (some [y, z, u]))
    (hs : swapsWithSole [.Tuple [.Name y px, .Name z py, .Name u pz] kt pt] (.Tuple [a, b, c] k2 pt2) pos.line X.env = pure false := by rfl) :
    DS X (.Assign [.Tuple [.Name y px, .Name z py, .Name u pz] kt pt] (.Tuple [a, b, c] k2 pt2) pos) (tPar3 i j l t) (mPar3 i j l MA) := ds_par3 (ps_par3 hc hN hi hj hl hij hil hjl hx hy hz h.pa hw hs) h.sa
theorem dg_subE {vs : List Nat} (ho : DE X a to Mo) (hi : DE X b tb Mb)
    (ha : ∀ v, assign (.Subscript a b pos) X.env v = (do
      let ov ← holding [v] (eval a X.env)
      let iv ← holding [v, ov] (eval b X.env)
      standAt pos
      holding [v, ov, iv] (setItem ov iv v)
      release [v, ov, iv] []) := by intro _; rfl) : DG X (.Subscript a b pos) (gSub to tb rSetL) (mgSub Mo Mb) vs := dg_sub (pg_sub ho.pe hi.pe set_list ha) ho.se hi.se
theorem de_appendE (ho : DE X a to Mo) (h : DA X (e :: es) t MA)
    (hbase : attributeBase a "append" X.env (eval a X.env) = eval a X.env := by rfl)
    (hfew : ((backTo cpos (starEach (e :: es) X.env)).all (fun x => !x.1) && (backToKw cpos (keywordEach [] X.env)).all (fun x => x.1.isSome)
      && decide ((e :: es).length + ([] : List Keyword).length + (if ([] : List Keyword).isEmpty then 0 else 1) < 30)) = true := by rfl)
    (hline : (apos.endLine == cpos.line) = true := by rfl) (hs : starEach (e :: es) X.env = (false, eval e X.env) :: starEach es X.env := by rfl) (hplain : (backTo cpos (starEach es X.env)).any (·.1) = false := by rfl) :
    DE X (.Call (.Attribute a "append" apos) (e :: es) [] cpos) (tBM X.K "list" rAppend to t) (mAppend Mo MA) := de_append (pe_bm PySem.F.plainAttrs_list PySem.F.slot_list_append PySem.F.type_list_append mt_append ho.pe h.pa hbase hfew hline hs hplain) ho.se h.sa
theorem de_popE (ho : DE X a to Mo) (h : DA X (e :: es) t MA)
    (hbase : attributeBase a "pop" X.env (eval a X.env) = eval a X.env := by rfl)
    (hfew : ((backTo cpos (starEach (e :: es) X.env)).all (fun x => !x.1) && (backToKw cpos (keywordEach [] X.env)).all (fun x => x.1.isSome)
      && decide ((e :: es).length + ([] : List Keyword).length + (if ([] : List Keyword).isEmpty then 0 else 1) < 30)) = true := by rfl)
    (hline : (apos.endLine == cpos.line) = true := by rfl) (hs : starEach (e :: es) X.env = (false, eval e X.env) :: starEach es X.env := by rfl) (hplain : (backTo cpos (starEach es X.env)).any (·.1) = false := by rfl) :
    DE X (.Call (.Attribute a "pop" apos) (e :: es) [] cpos) (tBM X.K "list" rPopAt to t) (mPop Mo MA) := de_pop (pe_bm PySem.F.plainAttrs_list PySem.F.slot_list_pop PySem.F.type_list_pop mt_popAt ho.pe h.pa hbase hfew hline hs hplain) ho.se h.sa
theorem de_popC (hK : X.K = K) (ho : DE X a to Mo) (h : DA X (e :: es) t MA)
    (hbase : attributeBase a "pop" X.env (eval a X.env) = eval a X.env := by rfl)
    (hfew : ((backTo cpos (starEach (e :: es) X.env)).all (fun x => !x.1) && (backToKw cpos (keywordEach [] X.env)).all (fun x => x.1.isSome)
      && decide ((e :: es).length + ([] : List Keyword).length + (if ([] : List Keyword).isEmpty then 0 else 1) < 30)) = true := by rfl)
    (hline : (apos.endLine == cpos.line) = true := by rfl) (hs : starEach (e :: es) X.env = (false, eval e X.env) :: starEach es X.env := by rfl) (hplain : (backTo cpos (starEach es X.env)).any (·.1) = false := by rfl) :
    DE X (.Call (.Attribute a "pop" apos) (e :: es) [] cpos) (tBM K "list" rPopAt to t) (mPop Mo MA) := by
  subst hK
  exact de_popE ho h hbase hfew hline hs hplain
theorem de_joinE (ho : DE X a to Mo) (he : DE X e te Me) (hs : starEach [e] X.env = [(false, eval e X.env)] := by rfl) (hbase : attributeBase a "join" X.env (eval a X.env) = eval a X.env := by rfl) (hline : (apos.endLine == cpos.line) = true := by rfl) :
    DE X (.Call (.Attribute a "join" apos) [e] [] cpos) (tJoin X.K to te) (mOp oJoin (fun δ μ P => Mo δ μ fun x μ1 => (∃ s, x = .dat (.str s)) ∧ P x μ1) Me) := de_join (pe_join ho.pe he.pe hs hbase hline) ho.se he.se
theorem de_upperE (ho : DE X a to Mo) (hbase : attributeBase a "upper" X.env (eval a X.env) = eval a X.env := by rfl) (hline : (apos.endLine == cpos.line) = true := by rfl) :
    DE X (.Call (.Attribute a "upper" apos) [] [] cpos) (tUpper to) (mUn oUpper Mo) := de_upper (pe_upper ho.pe hbase hline) ho.se
variable {tg : Expr}
theorem di_strE (h : DE X e te Me) : DI X tg e (iStr te) (miS Me) := di_str h (pi_str h.pe)
theorem di_rangeE (gl : Gl X "range") (hm : X.mg "range" = none) (h : DA X [a] t MA) (hs : starEach [a] X.env = [(false, eval a X.env)] := by rfl) :
    DI X tg (.Call (.Name "range" p) [a] [] pos) (iRng1 t) (miR MA) := di_range (pi_range1 gl hm h.pa hs) h.sa
theorem di_enumE {elts : List Expr} {kk : Nat} {tpos : Pos} (gl : Gl X "enumerate") (hm : X.mg "enumerate" = none) (h : DA X [a] t MA) (hs : starEach [a] X.env = [(false, eval a X.env)] := by rfl) :
    DI X (.Tuple elts kk tpos) (.Call (.Name "enumerate" p) [a] [] pos) (iEnum X.K t) (miE MA) := di_enum (pi_enum gl hm h.pa hs) h.sa
theorem di_zipE {elts : List Expr} {kk : Nat} {tpos : Pos} (gl : Gl X "zip") (hm : X.mg "zip" = none) (h : DA X [a, b] t MA) (hs : starEach [a, b] X.env = (false, eval a X.env) :: starEach [b] X.env := by rfl) (hpl : (backTo pos (starEach [b] X.env)).any (·.1) = false := by rfl) :
    DI X (.Tuple elts kk tpos) (.Call (.Name "zip" p) [a, b] [] pos) (iZipA X.K t) (miZ MA) := di_zip (pi_zipA gl hm h.pa hs hpl) h.sa
/-! repr, and + of two of one sort -/
def oRepr : DO1 := fun a μ P => ∃ d : PyData, a = .dat d ∧ d.showable = true ∧ d.hasDict = false ∧ d.depth ≤ 60 ∧ d.shown.length ≤ sizeLine ∧ P (.dat (.str d.shown)) μ
theorem so_repr : SO1 K (fun x H Q => rRepr K [x] H Q) oRepr := fun y H Q a μ P hm rx ⟨d, e1, h1, h2, h3, h4, q⟩ c => by
  subst e1
  exact ⟨y, d, rfl, dp_mono (hid_same H μ) (dp_up rx), h1, h2, h3, h4, c.here hm (rS _) q⟩
def oCatU : DO2 := fun a b μ P => oCatL a b μ P ∨ oCatT a b μ P
theorem so_catU : SO2 K (fun x y H Q => rCatS x y H Q ∨ rCatA K x y H Q) oCatU := fun x y H Q a b μ P hm rx ry h c => by
  rcases h with h | h
  · exact .inl (so_catL x y H Q a b μ P hm rx ry h c)
  · exact .inr (so_catT x y H Q a b μ P hm rx ry h c)
theorem op_catU : OpR X (binaryOp .Add) (fun x y H Q => rCatS x y H Q ∨ rCatA X.K x y H Q) := OpR.or op_catS op_catA
end
end DL

namespace DL
open PySem PySem.Spec PyProof.Rows L2 RZ
/-! data of which all that is asked comes out: small leaves -/
def ib : Nat → Nat
  | 0 => 2000000000000
  | n + 1 => ib n + 1000000001
theorem ib_mono {n m : Nat} (h : n ≤ m) : ib n ≤ ib m := by
  induction h with
  | refl => exact Nat.le_refl _
  | step _ ih => exact Nat.le_trans ih (Nat.le_add_right _ _)
mutual
def fine (n : Nat) : PyData → Bool
  | .none => true
  | .bool _ => true
  | .int i => decide (i.natAbs ≤ ib n)
  | .str s => s.cps.toList.all (fun c => decide (c < 128)) && decide (s.length ≤ 20 + n)
  | .list xs => fineAll n xs
  | .tuple xs => fineAll n xs
  | .dict _ => false
def fineAll (n : Nat) : List PyData → Bool
  | [] => true
  | x :: xs => fine n x && fineAll n xs
end
mutual
def sz : PyData → Nat
  | .none => 1
  | .bool _ => 1
  | .int _ => 1
  | .str _ => 1
  | .list xs => 1 + szAll xs
  | .tuple xs => 1 + szAll xs
  | .dict _ => 1
def szAll : List PyData → Nat
  | [] => 0
  | x :: xs => sz x + szAll xs
end
theorem fineAll_iff {n : Nat} : ∀ {xs : List PyData}, fineAll n xs = true ↔ ∀ x ∈ xs, fine n x = true
  | [] => by simp [fineAll]
  | x :: xs => by simp [fineAll, fineAll_iff (xs := xs)]
theorem sz_pos : ∀ d : PyData, 1 ≤ sz d
  | .none => Nat.le_refl _
  | .bool _ => Nat.le_refl _
  | .int _ => Nat.le_refl _
  | .str _ => Nat.le_refl _
  | .list xs => by unfold sz; omega
  | .tuple xs => by unfold sz; omega
  | .dict _ => Nat.le_refl _
theorem szAll_append : ∀ xs ys : List PyData, szAll (xs ++ ys) = szAll xs + szAll ys
  | [], ys => by simp [szAll]
  | x :: xs, ys => by simp only [List.cons_append, szAll, szAll_append xs ys]; omega
theorem szAll_len : ∀ xs : List PyData, xs.length ≤ szAll xs
  | [] => Nat.le_refl _
  | x :: xs => by
    have h1 := sz_pos x
    have h2 := szAll_len xs
    simp only [List.length_cons, szAll]
    omega
theorem szAll_mem : ∀ {xs : List PyData} {x : PyData}, x ∈ xs → sz x ≤ szAll xs
  | y :: ys, x, h => by
    rcases List.mem_cons.mp h with e | e
    · subst e
      simp only [szAll]
      omega
    · have := szAll_mem e
      simp only [szAll]
      omega
theorem szAll_take : ∀ (k : Nat) (xs : List PyData), szAll (xs.take k) ≤ szAll xs
  | 0, xs => by simp [szAll]
  | k + 1, [] => by simp [szAll]
  | k + 1, x :: xs => by
    have := szAll_take k xs
    simp only [List.take_succ_cons, szAll]
    omega
theorem szAll_drop : ∀ (k : Nat) (xs : List PyData), szAll (xs.drop k) ≤ szAll xs
  | 0, xs => by simp
  | k + 1, [] => by simp [szAll]
  | k + 1, x :: xs => by
    have := szAll_drop k xs
    simp only [List.drop_succ_cons, szAll]
    omega
theorem depthAll_mem : ∀ {xs : List PyData} {x : PyData}, x ∈ xs → x.depth ≤ PyData.depthAll xs
  | y :: ys, x, h => by
    rcases List.mem_cons.mp h with e | e
    · subst e
      simp only [PyData.depthAll]
      omega
    · have := depthAll_mem e
      simp only [PyData.depthAll]
      omega
theorem depthAll_le {m : Nat} : ∀ {xs : List PyData}, (∀ x ∈ xs, x.depth ≤ m) → PyData.depthAll xs ≤ m
  | [], _ => by simp [PyData.depthAll]
  | y :: ys, h => by
    have h1 := h y List.mem_cons_self
    have h2 := depthAll_le (xs := ys) fun x hx => h x (List.mem_cons_of_mem _ hx)
    simp only [PyData.depthAll]
    omega
mutual
theorem fine_mono {n m : Nat} (h : n ≤ m) : ∀ {d : PyData}, fine n d = true → fine m d = true
  | .none, _ => by simp [fine]
  | .bool _, _ => by simp [fine]
  | .int i, q => by
    simp only [fine, decide_eq_true_eq] at q ⊢
    exact Nat.le_trans q (ib_mono h)
  | .str s, q => by
    simp only [fine, Bool.and_eq_true, decide_eq_true_eq] at q ⊢
    exact ⟨q.1, by omega⟩
  | .list xs, q => by simp only [fine] at q ⊢; exact fineAll_mono h q
  | .tuple xs, q => by simp only [fine] at q ⊢; exact fineAll_mono h q
  | .dict _, q => by simp [fine] at q
theorem fineAll_mono {n m : Nat} (h : n ≤ m) : ∀ {xs : List PyData}, fineAll n xs = true → fineAll m xs = true
  | [], _ => by simp [fineAll]
  | x :: xs, q => by
    simp only [fineAll, Bool.and_eq_true] at q ⊢
    exact ⟨fine_mono h q.1, fineAll_mono h q.2⟩
end
mutual
theorem fine_lay {n : Nat} : ∀ {d : PyData}, fine n d = true → d.canLay0 = true
  | .none, _ => by simp [PyData.canLay0]
  | .bool _, _ => by simp [PyData.canLay0]
  | .int i, q => by simp [PyData.canLay0]
  | .str s, q => by
    simp only [fine, Bool.and_eq_true, List.all_eq_true, decide_eq_true_eq] at q
    simp only [PyData.canLay0, PyData.strOk, ← Array.all_toList, List.all_eq_true, decide_eq_true_eq]
    intro c hc
    have := q.1 c hc
    omega
  | .list xs, q => by simp only [fine] at q; simp only [PyData.canLay0]; exact fineAll_lay q
  | .tuple xs, q => by simp only [fine] at q; simp only [PyData.canLay0]; exact fineAll_lay q
  | .dict _, q => by simp [fine] at q
theorem fineAll_lay {n : Nat} : ∀ {xs : List PyData}, fineAll n xs = true → PyData.canLayAll0 xs = true
  | [], _ => by simp [PyData.canLayAll0]
  | x :: xs, q => by
    simp only [fineAll, Bool.and_eq_true] at q
    simp only [PyData.canLayAll0, Bool.and_eq_true]
    exact ⟨fine_lay q.1, fineAll_lay q.2⟩
end
theorem fine_shaped {n : Nat} {d : PyData} (h : fine n d = true) (hd : d.depth ≤ 64) : SeqAt.shaped d = true := by
  show (d.canLay0 && decide (d.depth ≤ 64)) = true
  rw [Bool.and_eq_true]
  exact ⟨fine_lay h, decide_eq_true hd⟩
theorem natAbs_log {i : Int} {k : Nat} (hk : 0 < k) (h : i.natAbs < 2 ^ k) : i.natAbs.log2 < k := PySem.Flt.log2_lt_of hk h
theorem int_short {n : Nat} (hn : n ≤ 3) {i : Int} (h : i.natAbs ≤ ib n) : i.natAbs < 10 ^ 13 := by
  exact Nat.lt_of_le_of_lt (Nat.le_trans h (ib_mono hn)) (by decide)
mutual
theorem fine_show {n : Nat} (hn : n ≤ 3) : ∀ {d : PyData}, fine n d = true → d.showable = true ∧ d.hasDict = false ∧ d.leavesShort 14 = true ∧ d.weight + 10 ≤ 60 * sz d
  | .none, _ => by simp [PyData.showable, PyData.hasDict, PyData.leavesShort, PyData.weight, sz]
  | .bool _, _ => by simp [PyData.showable, PyData.hasDict, PyData.leavesShort, PyData.weight, sz]
  | .int i, q => by
    simp only [fine, decide_eq_true_eq] at q
    have h := int_short hn q
    have h40 : i.natAbs < 2 ^ 44 := Nat.lt_of_lt_of_le h (by decide)
    have hl := natAbs_log (by decide) h40
    refine ⟨?_, by simp [PyData.hasDict], ?_, ?_⟩
    · simp only [PyData.showable, decide_eq_true_eq]
      omega
    · simp only [PyData.leavesShort, decide_eq_true_eq, PyData.shown_int]
      rw [PySem.ofString_length]
      exact int_text_length_le10 (k := 13) (by decide) h
    · simp only [PyData.weight, sz]
      split <;> omega
  | .str s, q => by
    simp only [fine, Bool.and_eq_true, List.all_eq_true, decide_eq_true_eq] at q
    refine ⟨by simp [PyData.showable], by simp [PyData.hasDict], ?_, ?_⟩
    · simp only [PyData.leavesShort, List.all_eq_true, decide_eq_true_eq]
      intro c hc
      have := q.1 c hc
      exact Nat.lt_of_lt_of_le this (by decide)
    · simp only [PyData.weight, sz]
      have h2 : s.cps.size ≤ 20 + n := q.2
      omega
  | .list xs, q => by
    simp only [fine] at q
    obtain ⟨h1, h2, h3, h4⟩ := fineAll_show hn q
    refine ⟨by simp only [PyData.showable]; exact h1, by simp only [PyData.hasDict]; exact h2, by simp only [PyData.leavesShort]; exact h3, ?_⟩
    simp only [PyData.weight, sz]
    omega
  | .tuple xs, q => by
    simp only [fine] at q
    obtain ⟨h1, h2, h3, h4⟩ := fineAll_show hn q
    refine ⟨by simp only [PyData.showable]; exact h1, by simp only [PyData.hasDict]; exact h2, by simp only [PyData.leavesShort]; exact h3, ?_⟩
    simp only [PyData.weight, sz]
    omega
  | .dict _, q => by simp [fine] at q
theorem fineAll_show {n : Nat} (hn : n ≤ 3) : ∀ {xs : List PyData}, fineAll n xs = true → PyData.showableAll xs = true ∧ PyData.hasDictAll xs = false ∧ PyData.leavesShortAll 14 xs = true ∧ PyData.weightAll xs ≤ 60 * szAll xs
  | [], _ => by simp [PyData.showableAll, PyData.hasDictAll, PyData.leavesShortAll, PyData.weightAll]
  | x :: xs, q => by
    simp only [fineAll, Bool.and_eq_true] at q
    obtain ⟨h1, h2, h3, h4⟩ := fine_show hn q.1
    obtain ⟨g1, g2, g3, g4⟩ := fineAll_show hn q.2
    refine ⟨by simp [PyData.showableAll, h1, g1], by simp [PyData.hasDictAll, h2, g2], by simp [PyData.leavesShortAll, h3, g3], ?_⟩
    have hp := sz_pos x
    simp only [PyData.weightAll, szAll]
    omega
end

/-- what all that is asked of data comes out of -/
structure Ok (n b m : Nat) (d : PyData) : Prop where
  fn : fine n d = true
  sz : sz d ≤ b
  dp : d.depth ≤ m
theorem Ok.shaped {n b m : Nat} {d : PyData} (h : Ok n b m d) (hm : m ≤ 60) : SeqAt.shaped d = true := fine_shaped h.fn (Nat.le_trans h.dp (by omega))
theorem Ok.shown {n b m : Nat} {d : PyData} (h : Ok n b m d) (hn : n ≤ 3) (hb : b ≤ 10000) (hm : m ≤ 60) : d.showable = true ∧ d.hasDict = false ∧ d.depth ≤ 60 ∧ d.shown.length ≤ sizeLine := by
  obtain ⟨h1, h2, h3, h4⟩ := fine_show hn h.fn
  refine ⟨h1, h2, Nat.le_trans h.dp hm, ?_⟩
  have h5 := PyData.shown_le 14 (by decide) d h3
  have h6 := h.sz
  rw [sizeLine_eq]
  omega
theorem Ok.len {n b m : Nat} {s : Str} (h : Ok n b m (.str s)) : s.length ≤ 20 + n := by
  have := h.fn
  simp only [fine, Bool.and_eq_true, decide_eq_true_eq] at this
  exact this.2
theorem Ok.le {n b m n' b' m' : Nat} {d : PyData} (h : Ok n b m d) (h1 : n ≤ n') (h2 : b ≤ b') (h3 : m ≤ m') : Ok n' b' m' d := ⟨fine_mono h1 h.fn, Nat.le_trans h.sz h2, Nat.le_trans h.dp h3⟩
/-- the items of data -/
theorem Ok.item {n b m : Nat} {d : PyData} {ds : List PyData} (h : Ok n b m d) (e : itemsD d = some ds) {x : PyData} (hx : x ∈ ds) : Ok n b m x ∧ x.depth + 1 ≤ m := by
  have hf := h.fn
  have hs := h.sz
  have hd := h.dp
  cases d <;> simp only [itemsD, Option.some.injEq, reduceCtorEq] at e <;> subst e
  · simp only [fine] at hf
    simp only [DL.sz] at hs
    simp only [PyData.depth] at hd
    have h1 := szAll_mem hx
    have h2 := depthAll_mem hx
    exact ⟨⟨fineAll_iff.mp hf x hx, by omega, by omega⟩, by omega⟩
  · simp only [fine] at hf
    simp only [DL.sz] at hs
    simp only [PyData.depth] at hd
    have h1 := szAll_mem hx
    have h2 := depthAll_mem hx
    exact ⟨⟨fineAll_iff.mp hf x hx, by omega, by omega⟩, by omega⟩
theorem Ok.items_len {n b m : Nat} {d : PyData} {ds : List PyData} (h : Ok n b m d) (e : itemsD d = some ds) : ds.length + 1 ≤ b := by
  have hs := h.sz
  have hl := szAll_len ds
  cases d <;> simp only [itemsD, Option.some.injEq, reduceCtorEq] at e
  · rw [e] at hs
    simp only [DL.sz] at hs
    omega
  · rw [e] at hs
    simp only [DL.sz] at hs
    omega
end DL

namespace DL
open PySem PySem.Spec PyProof.Rows L2 RZ
/-- a comprehension without tests whose element is a function of the item -/
theorem mset_none {μ : Mu} {D : Addr} {o : Option MO} (h : μ D = none) : mset (mset μ D o) D none = μ := by
  funext b
  unfold mset
  by_cases e : b = D
  · rw [if_pos e, e, h]
  · rw [if_neg e, if_neg e]
theorem mset_mset {μ : Mu} {D : Addr} {o u : Option MO} : mset (mset μ D o) D u = mset μ D u := by
  funext b
  unfold mset
  by_cases e : b = D
  · rw [if_pos e, if_pos e]
  · rw [if_neg e, if_neg e, if_neg e]
theorem mset_comm {μ : Mu} {a b : Addr} {o u : Option MO} (h : a ≠ b) : mset (mset μ a o) b u = mset (mset μ b u) a o := by
  funext c
  unfold mset
  by_cases e : c = b
  · rw [if_pos e, if_neg (fun z => h (z.symm.trans e)), if_pos e]
  · rw [if_neg e, if_neg e]
theorem take_map_succ {α β : Type} (f : α → β) {l : List α} {i : Nat} {d : α} (h : l[i]? = some d) : (l.take (i + 1)).map f = (l.take i).map f ++ [f d] := by
  rw [List.take_add_one, h, List.map_append]
  rfl
theorem lc_pure {MI : DIx} {G : DGx} {ME : DEx} {vs : List Nat} {δ : Dl} {μ : Mu} {P : DV} (ds : List PyData) (f : PyData → PyData) (hi : ∀ R : List PyData → Mu → Prop, R ds μ → MI δ μ R) (hz : ds.length ≤ sizeLine)
    (h : ∀ d ∈ ds, ∀ (μ' : Mu) (R : DV), R (.dat (f d)) μ' → G (.dat d) (wipeD δ vs) μ' fun δ2 μ2 => ME δ2 μ2 R) (hP : P (.dat (.list (ds.map f))) μ) : mLc MI G (fun _ μ P => P true μ) ME vs δ μ P := by
  refine hi _ ⟨hz, fun D hD => ⟨fun i acc μ' => acc = (ds.take i).map f ∧ μ' = mset μ D (cellA acc), ⟨by simp, rfl⟩, fun i d acc μ' hd ⟨ha, hm⟩ hc => ?_, fun acc μ' ⟨ha, hm⟩ _ => ?_⟩⟩
  · refine h d (List.mem_of_getElem? hd) μ' _ ⟨f d, rfl, hc, ?_, ?_⟩
    · rw [ha, take_map_succ f hd]
    · rw [hm, mset_mset]
  · rw [List.take_length] at ha
    rw [ha, hm, mset_none hD]
    exact hP
/-- .. all of its truths -/
theorem all_map (ds : List PyData) (g : PyData → Bool) (Q : DV) (μ : Mu) (h : Q (.dat (.bool (ds.all g))) μ) : oAll (.dat (.list (ds.map fun d => .bool (g d)))) μ Q := by
  refine ⟨ds.map g, by rw [List.map_map]; rfl, ?_⟩
  have e : (ds.map g).all id = ds.all g := by
    rw [List.all_map]
    rfl
  rw [e]
  exact h
/-- a comprehension whose element changes cells: J holds of the cells at each turn, p of each element -/
theorem lc_inv {MI : DIx} {G : DGx} {ME : DEx} {vs : List Nat} {δ : Dl} {μ μ1 : Mu} {P : DV} (J : Nat → Mu → Prop) (p : PyData → Prop) (ds : List PyData) (hi : ∀ R : List PyData → Mu → Prop, R ds μ1 → MI δ μ R) (hz : ds.length ≤ sizeLine)
    (hJ : ∀ i μ' D o, μ1 D = none → J i μ' → J i (mset μ' D o)) (h0 : J 0 μ1)
    (h : ∀ i d, ds[i]? = some d → ∀ (μ' : Mu) (R : DV), J i μ' → (∀ e μ2, p e → J (i + 1) μ2 → (∀ D, μ1 D = none → μ2 D = μ' D) → R (.dat e) μ2) → G (.dat d) (wipeD δ vs) μ' fun δ2 μ2 => ME δ2 μ2 R)
    (hP : ∀ acc μ', acc.length = ds.length → (∀ e ∈ acc, p e) → J ds.length μ' → (∀ b, μ1 b = none → μ' b = none) → P (.dat (.list acc)) μ') : mLc MI G (fun _ μ P => P true μ) ME vs δ μ P := by
  refine hi _ ⟨hz, fun D hD => ⟨fun i acc μ' => acc.length = i ∧ (∀ e ∈ acc, p e) ∧ J i μ' ∧ (∀ b, μ1 b = none → b ≠ D → μ' b = none), ⟨rfl, by simp, hJ 0 μ1 D _ hD h0, fun b hb hn => by rw [mset_ne hn]; exact hb⟩, fun i d acc μ' hd ⟨w1, w2, w3, w4⟩ hc => ?_, fun acc μ' ⟨w1, w2, w3, w4⟩ _ => ?_⟩⟩
  · refine h i d hd μ' _ w3 fun e μ2 he hj hk => ⟨e, rfl, (hk D hD).trans hc, by rw [List.length_append]; simp [w1], fun x hx => ?_, hJ _ μ2 D _ hD hj, fun b hb hn => ?_⟩
    · rcases List.mem_append.mp hx with q | q
      · exact w2 x q
      · rw [List.mem_singleton.mp q]
        exact he
    · rw [mset_ne hn, hk b hb]
      exact w4 b hb hn
  · refine hP acc _ w1 w2 (hJ _ μ' D _ hD w3) fun b hb => ?_
    by_cases e : b = D
    · rw [e, mset_same]
    · rw [mset_ne e]
      exact w4 b hb e
/-- a loop over items that are known -/
theorem for_by {MI : DIx} {G : DGx} {M : DSx} {D : DEnds} {δ : Dl} {μ μ1 : Mu} (ds : List PyData) (hi : ∀ R : List PyData → Mu → Prop, R ds μ1 → MI δ μ R) (W : Nat → Dl → Mu → Prop) (h0 : W 0 δ μ1)
    (turn : ∀ i d δ' μ', ds[i]? = some d → W i δ' μ' → G (.dat d) δ' μ' fun δ2 μ2 => M { D with nx := W (i + 1), ct := W (i + 1), bk := D.nx } δ2 μ2) (done : ∀ δ' μ', W ds.length δ' μ' → D.nx δ' μ') : mFor MI G M D δ μ :=
  hi _ ⟨W, h0, turn, done⟩
section
variable {lo hi : Option Int} {ds es : List PyData} {z y : Str} {ns : List Int} {μ : Mu} {P : DV} {p : Addr} {n : Nat} {i j : Int} {r a : AV} {as : List AV} {k l : Bool} {δ : Dl} {R : Dl → Mu → Prop} {G : DGx} {Gs : List AV → Dl → Mu → (Dl → Mu → Prop) → Prop}
theorem oSl_l : oSl lo hi (.dat (.list ds)) μ P = P (.dat (.list (cutL ds lo hi))) μ := rfl
theorem oSl_t : oSl lo hi (.dat (.tuple ds)) μ P = P (.dat (.tuple (cutL ds lo hi))) μ := rfl
theorem oSl_s : oSl lo hi (.dat (.str z)) μ P = (z.length ≤ sizeLine ∧ P (.dat (.str (cutS z lo hi))) μ) := rfl
theorem oSl_r : oSl lo hi (.raw ns) μ P = P (.dat (.list ((cutL ns lo hi).map PyData.int))) μ := rfl
theorem LenD_s : LenD (.dat (.str z)) μ n = (z.length ≤ sizeLine ∧ n = z.length) := rfl
theorem LenD_l : LenD (.dat (.list ds)) μ n = (n = ds.length) := rfl
theorem LenD_t : LenD (.dat (.tuple ds)) μ n = (n = ds.length) := rfl
theorem LenD_m : LenD (.mut p) μ n = ∃ as, μ p = some (.lst as) ∧ n = as.length := rfl
theorem ixD_l : ixD (.dat (.list ds)) μ i r = ∃ d, r = .dat d ∧ atI ds i = some d := rfl
theorem ixD_t : ixD (.dat (.tuple ds)) μ i r = ∃ d, r = .dat d ∧ atI ds i = some d := rfl
theorem ixD_s : ixD (.dat (.str z)) μ i r = ∃ c, r = .dat (.str ⟨#[c]⟩) ∧ z.length ≤ sizeLine ∧ atI z.cps.toList i = some c := rfl
theorem ixD_m : ixD (.mut p) μ i r = ∃ as, μ p = some (.lst as) ∧ atI as i = some r := rfl
theorem itemsD_l : itemsD (.list ds) = some ds := rfl
theorem itemsD_t : itemsD (.tuple ds) = some ds := rfl
theorem eqD_i : eqD (.int i) (.int j) = some (decide (i = j)) := rfl
theorem eqD_b : eqD (.bool k) (.bool l) = some (decide (k = l)) := rfl
theorem eqD_s : eqD (.str z) (.str y) = some (decide (z = y)) := rfl
theorem mgCons_c : mgCons G Gs (a :: as) δ μ R = G a δ μ fun δ1 μ1 => Gs as δ1 μ1 R := rfl
theorem mgNil_n : mgNil [] δ μ R = R δ μ := rfl
theorem zipAs_l : zipAs [.dat (.list ds), .dat (.list es)] = some (zipD ds es) := rfl
theorem zipAs_t : zipAs [.dat (.tuple ds), .dat (.tuple es)] = some (zipD ds es) := rfl
end
theorem ix0 {α : Type} (a : α) (r : List α) : atI (a :: r) 0 = some a := atI_nat (j := 0) rfl
theorem ix1 {α : Type} (a b : α) (r : List α) : atI (a :: b :: r) 1 = some b := atI_nat (j := 1) rfl
theorem ix2 {α : Type} (a b c : α) (r : List α) : atI (a :: b :: c :: r) 2 = some c := atI_nat (j := 2) rfl
theorem ix3 {α : Type} (a b c d : α) (r : List α) : atI (a :: b :: c :: d :: r) 3 = some d := atI_nat (j := 3) rfl
end DL

/-! dicts with texts and numbers as keys, as cells -/
namespace DL
open PySem PySem.Spec PyProof.Rows L2 RZ
def kD : Key → PyData
  | .inl i => .int i
  | .inr z => .str z
def valA (kvs : List (Key × AV)) (k : Key) : Option AV := (kvs.find? fun q => decide (q.1 = k)).map fun q => q.2
def setA (kvs : List (Key × AV)) (k : Key) (a : AV) : List (Key × AV) := kvs.map fun q => if q.1 = k then (q.1, a) else q
def putA (kvs : List (Key × AV)) (k : Key) (a : AV) : List (Key × AV) := if (valA kvs k).isSome = true then setA kvs k a else kvs ++ [(k, a)]
theorem valA_pos {q : Key × AV} {r : List (Key × AV)} {k : Key} (e : q.1 = k) : valA (q :: r) k = some q.2 := by simp [valA, List.find?_cons, e]
theorem valA_neg {q : Key × AV} {r : List (Key × AV)} {k : Key} (e : ¬ q.1 = k) : valA (q :: r) k = valA r k := by simp [valA, List.find?_cons, e]
section
variable {K : PySem.W.Frag} {H : Hp} {μ : Mu}
abbrev PK (K : PySem.W.Frag) (H : Hp) : List (Key × V) → List (Key × AV) → Prop := Paired fun (p : Key × V) (q : Key × AV) => p.1 = q.1 ∧ RelA K H p.2 q.2
theorem pk_val {k : Key} : ∀ {vs : List (Key × V)} {kvs : List (Key × AV)}, PK K H vs kvs → (valA kvs k = none → valV vs k = none) ∧ ∀ a, valA kvs k = some a → ∃ v, valV vs k = some v ∧ RelA K H v a
  | _, _, .nil => ⟨fun _ => rfl, fun a h => by cases h⟩
  | p :: vs, q :: kvs, .cons h t => by
    have ih := pk_val (k := k) t
    by_cases e : q.1 = k
    · rw [valA_pos e, valV_pos (h.1.trans e)]
      refine ⟨fun z => (nomatch z), fun a z => ?_⟩
      cases z
      exact ⟨_, rfl, h.2⟩
    · rw [valA_neg e, valV_neg (fun z => e (h.1.symm.trans z))]
      exact ih
theorem pk_snoc {x : Key × V} {y : Key × AV} (hx : x.1 = y.1 ∧ RelA K H x.2 y.2) : ∀ {vs : List (Key × V)} {kvs : List (Key × AV)}, PK K H vs kvs → PK K H (vs ++ [x]) (kvs ++ [y])
  | _, _, .nil => .cons hx .nil
  | _, _, .cons h t => .cons h (pk_snoc hx t)
theorem pk_set {k : Key} {v : V} {a : AV} (r : RelA K H v a) : ∀ {vs : List (Key × V)} {kvs : List (Key × AV)}, PK K H vs kvs → PK K H (vs.map fun p => if p.1 = k then (p.1, v) else p) (setA kvs k a)
  | _, _, .nil => .nil
  | p :: vs, q :: kvs, .cons h t => by
    refine .cons ?_ (pk_set r t)
    by_cases e : q.1 = k
    · show (if p.1 = k then (p.1, v) else p).1 = (if q.1 = k then (q.1, a) else q).1 ∧ RelA K H (if p.1 = k then (p.1, v) else p).2 (if q.1 = k then (q.1, a) else q).2
      rw [if_pos e, if_pos (h.1.trans e)]
      exact ⟨h.1, r⟩
    · show (if p.1 = k then (p.1, v) else p).1 = (if q.1 = k then (q.1, a) else q).1 ∧ RelA K H (if p.1 = k then (p.1, v) else p).2 (if q.1 = k then (q.1, a) else q).2
      rw [if_neg e, if_neg (fun z => e (h.1.symm.trans z))]
      exact h
theorem pk_put {k : Key} {v : V} {a : AV} (r : RelA K H v a) {vs : List (Key × V)} {kvs : List (Key × AV)} (h : PK K H vs kvs) : PK K H (putK vs k v) (putA kvs k a) := by
  have hv := pk_val (k := k) h
  unfold putK putA
  rw [valV_any]
  cases e : valA kvs k with
  | none =>
    rw [hv.1 e]
    exact pk_snoc ⟨rfl, r⟩ h
  | some b =>
    obtain ⟨u, hu, _⟩ := hv.2 b e
    rw [hu]
    exact pk_set r h
theorem pk_len {vs : List (Key × V)} {kvs : List (Key × AV)} (h : PK K H vs kvs) : vs.length = kvs.length := Paired.length h
theorem HM.dk (h : HM K H μ) {a : Addr} {kvs : List (Key × AV)} (e : μ a = some (.dK kvs)) : ∃ vs, H a = some (.dK vs) ∧ PK K (hid H μ) vs kvs := h a _ e
theorem HM.storeK (h : HM K H μ) {a : Addr} (ha : hid H μ a = none) {vs : List (Key × V)} {kvs : List (Key × AV)} (r : PK K (hid H μ) vs kvs) : HM K (upd H a (.dK vs)) (mset μ a (some (.dK kvs))) := fun b m hb => by
  rw [hid_store ha]
  by_cases e : b = a
  · subst e
    rw [mset_same] at hb
    cases hb
    exact ⟨vs, upd_same, r⟩
  · rw [mset_ne e] at hb
    have q := h b m hb
    cases m with
    | lst as => obtain ⟨ys, e1, r1⟩ := q; exact ⟨ys, (upd_ne e).trans e1, r1⟩
    | dK ks => obtain ⟨ys, e1, r1⟩ := q; exact ⟨ys, (upd_ne e).trans e1, r1⟩
    | tup as => obtain ⟨ys, e1, r1⟩ := q; exact ⟨ys, (upd_ne e).trans e1, r1⟩
    | dT ks => obtain ⟨ys, e1, r1⟩ := q; exact ⟨ys, (upd_ne e).trans e1, r1⟩
    | lk o us ks => obtain ⟨ys, e1, r1⟩ := q; exact ⟨ys, (upd_ne e).trans e1, r1⟩
theorem key_of {v : V} : ∀ {k : Key}, RelA K H v (.dat (kD k)) → v = kV k
  | .inl i, h => by cases h; rfl
  | .inr z, h => by cases h; rfl
end
section
variable {X : Cx} {o i e f value : Expr} {pos pos' apos cpos : Pos} {to ti te tf tv : TE} {Mo Mi Me Mf Mv : DEx}
def mDNew : DEx := fun _ μ P => ∀ p, μ p = none → P (.mut p) (mset μ p (some (.dK [])))
theorem de_dnew : DE X (.Dict [] [] pos) tDNewK mDNew := ⟨pe_dnewK, fun σ H Q δ μ P R hm m c p n => by
  have hp : hid H μ p = none := by rw [hid_none (hm.ne n)]; exact n
  refine c _ _ (.mut p) (mset μ p (some (.dK []))) ?_ (hm.storeK hp .nil) rfl (m p (hm.ne n))
  rw [hid_store hp]
  exact Same.refl _⟩
/-- d[k] -/
def mDGet (Mo Mi : DEx) : DEx := fun δ μ P => Mo δ μ fun x μ1 => Mi δ μ1 fun y μ2 => ∃ p kvs k a, x = .mut p ∧ y = .dat (kD k) ∧ μ2 p = some (.dK kvs) ∧ valA kvs k = some a ∧ P a μ2
theorem de_dget (hu : X.A.units + 1 < cLine) (ho : DE X o to Mo) (hi : DE X i ti Mi) (hs : NoSl i) : DE X (.Subscript o i pos) (tDGet to ti) (mDGet Mo Mi) := ⟨pe_dget hu ho.pe hi.pe hs, fun σ H Q δ μ P R hm m c =>
  ho.se σ H _ δ μ _ R hm m fun x H1 av μ1 e1 hm1 r1 m1 => hi.se σ H1 _ δ μ1 _ (R.mono e1) hm1 m1 fun y H2 bv μ2 e2 hm2 r2 ⟨p, kvs, k, a, ea, eb, hp, hv, m2⟩ => by
    subst ea eb
    obtain ⟨vs, h1, h2⟩ := hm2.dk hp
    obtain ⟨v, h3, h4⟩ := (pk_val h2).2 a hv
    exact ⟨p, v, r1, .inl ⟨vs, k, .inl h1, key_of r2, h3.symm⟩, (c.from (e1.trans e2)).here hm2 h4 m2⟩⟩
/-- k in d -/
def mDIn (g : Bool → Bool) (Mi Mo : DEx) : DEx := fun δ μ P => Mi δ μ fun y μ1 => Mo δ μ1 fun x μ2 => ∃ p kvs k, x = .mut p ∧ y = .dat (kD k) ∧ μ2 p = some (.dK kvs) ∧ P (.dat (.bool (g (valA kvs k).isSome))) μ2
theorem isSome_of {K : PySem.W.Frag} {H : Hp} {k : Key} {vs : List (Key × V)} {kvs : List (Key × AV)} (h : PK K H vs kvs) : (valV vs k).isSome = (valA kvs k).isSome := by
  have q := pk_val (k := k) h
  cases e : valA kvs k with
  | none => rw [q.1 e]; rfl
  | some a =>
    obtain ⟨v, h1, _⟩ := q.2 a e
    rw [h1]
    rfl
theorem de_din (hu : X.A.units + 1 < cLine) (hi : DE X i ti Mi) (ho : DE X o to Mo) (hb : behindInMarks .In o = false := by first | exact nobehind _ (by decide) (by decide) | rfl) : DE X (.Compare i [.In] [o] pos) (tDIn ti to) (mDIn (fun b => b) Mi Mo) := ⟨pe_cmp (pc_din hu hi.pe ho.pe) hb, fun σ H Q δ μ P R hm m c =>
  hi.se σ H _ δ μ _ R hm m fun y H1 bv μ1 e1 hm1 r1 m1 => ho.se σ H1 _ δ μ1 _ (R.mono e1) hm1 m1 fun x H2 av μ2 e2 hm2 r2 ⟨p, kvs, k, ea, eb, hp, m2⟩ => by
    subst ea eb
    obtain ⟨vs, h1, h2⟩ := hm2.dk hp
    refine ⟨p, valV vs k, r2, .inl ⟨vs, k, .inl h1, key_of r1, rfl⟩, (c.from (e1.trans e2)).here hm2 (rB _) ?_⟩
    rw [isSome_of h2]
    exact m2⟩
theorem de_dnotin (hu : X.A.units + 1 < cLine) (hi : DE X i ti Mi) (ho : DE X o to Mo) (hb : behindInMarks .NotIn o = false := by first | exact nobehind _ (by decide) (by decide) | rfl) : DE X (.Compare i [.NotIn] [o] pos) (tDNotIn ti to) (mDIn (fun b => !b) Mi Mo) := ⟨pe_cmp (pc_dnotin hu hi.pe ho.pe) hb, fun σ H Q δ μ P R hm m c =>
  hi.se σ H _ δ μ _ R hm m fun y H1 bv μ1 e1 hm1 r1 m1 => ho.se σ H1 _ δ μ1 _ (R.mono e1) hm1 m1 fun x H2 av μ2 e2 hm2 r2 ⟨p, kvs, k, ea, eb, hp, m2⟩ => by
    subst ea eb
    obtain ⟨vs, h1, h2⟩ := hm2.dk hp
    refine ⟨p, valV vs k, r2, .inl ⟨vs, k, .inl h1, key_of r1, rfl⟩, (c.from (e1.trans e2)).here hm2 (rB _) ?_⟩
    rw [isSome_of h2]
    exact m2⟩
/-- d[k] = v -/
def mDPut (Mo Mi Mv : DEx) : DSx := fun D δ μ => Mv δ μ fun a μ1 => Mo δ μ1 fun x μ2 => Mi δ μ2 fun y μ3 => ∃ p kvs k, x = .mut p ∧ y = .dat (kD k) ∧ μ3 p = some (.dK kvs) ∧ kvs.length < sizeLine ∧ D.nx δ (mset μ3 p (some (.dK (putA kvs k a))))
theorem ds_dput (hu : X.A.units + 1 < cLine) (ho : DE X o to Mo) (hi : DE X i ti Mi) (hv : DE X value tv Mv) (hs : swapsWith value (some (.Subscript o i pos')) pos.line X.env = pure false := by rfl) :
    DS X (.Assign [.Subscript o i pos'] value pos) (sDPut to ti tv) (mDPut Mo Mi Mv) := ⟨ps_dput hu ho.pe hi.pe hv.pe hs, fun σ H D δ μ DD R hm m c =>
  hv.se σ H _ δ μ _ R hm m fun v H1 a μ1 e1 hm1 r1 m1 => ho.se σ H1 _ δ μ1 _ (R.mono e1) hm1 m1 fun x H2 av μ2 e2 hm2 r2 m2 => hi.se σ H2 _ δ μ2 _ ((R.mono e1).mono e2) hm2 m2 fun y H3 bv μ3 e3 hm3 r3 ⟨p, kvs, k, ea, eb, hp, hz, m3⟩ => by
    subst ea eb
    obtain ⟨vs, h1, h2⟩ := hm3.dk hp
    have rv : RelA X.K (hid H3 μ3) v a := relA_mono (e2.trans e3) r1
    have hh : hid H3 μ3 p = none := hid_cell hp
    refine ⟨p, _, r2, .inl ⟨vs, k, h1, key_of r3, by rw [pk_len h2]; exact hz, rfl⟩, c.nx σ _ δ _ ?_ (hm3.storeK hh (pk_put rv h2)) ?_ m3⟩
    · rw [hid_store hh]
      exact (e1.trans e2).trans e3
    · rw [hid_store hh]
      exact ((R.mono e1).mono e2).mono e3⟩
end
section
variable {X : Cx} {k v : Expr} {ks : List (Option Expr)} {vs : List Expr} {pos : Pos} {tk tv : TE} {trs : List (TE × TE)} {Mk Mv : DEx} {Ms : List (DEx × DEx)} {K : PySem.W.Frag}
/-! {k: v, ..} -/
def mPairs : List (DEx × DEx) → Dl → Mu → (List (AV × AV) → Mu → Prop) → Prop
  | [], _, μ, P => P [] μ
  | m :: r, δ, μ, P => m.1 δ μ fun x μ1 => m.2 δ μ1 fun y μ2 => mPairs r δ μ2 fun ps μ3 => P ((x, y) :: ps) μ3
abbrev PP (K : PySem.W.Frag) (H : Hp) : List (V × V) → List (AV × AV) → Prop := Paired fun p q => RelA K H p.1 q.1 ∧ RelA K H p.2 q.2
structure DPs (X : Cx) (pos : Pos) (ks : List (Option Expr)) (vs : List Expr) (trs : List (TE × TE)) (Ms : List (DEx × DEx)) : Prop where
  pp : PPs X pos ks vs trs
  sp : ∀ σ H (Q : List (V × V) → Hp → Prop) δ μ P, Rel X.K (hid H μ) σ δ → HM X.K H μ → mPairs Ms δ μ P → (∀ ps H' qs μ', Same (hid H μ) (hid H' μ') → HM X.K H' μ' → PP X.K (hid H' μ') ps qs → P qs μ' → Q ps H') → tPairs trs σ H Q
theorem dps_nil : DPs X pos [] [] [] [] := ⟨pps_nil, fun σ H Q δ μ P R hm m c => c [] H [] μ (Same.refl _) hm .nil m⟩
theorem dps_cons (hk : DE X k tk Mk) (hv : DE X v tv Mv) (hr : DPs X pos ks vs trs Ms) : DPs X pos (some k :: ks) (v :: vs) ((tk, tv) :: trs) ((Mk, Mv) :: Ms) := ⟨pps_cons hk.pe hv.pe hr.pp, fun σ H Q δ μ P R hm m c =>
  hk.se σ H _ δ μ _ R hm m fun x H1 av μ1 e1 hm1 r1 m1 => hv.se σ H1 _ δ μ1 _ (R.mono e1) hm1 m1 fun y H2 bv μ2 e2 hm2 r2 m2 => hr.sp σ H2 _ δ μ2 _ ((R.mono e1).mono e2) hm2 m2 fun ps H3 qs μ3 e3 hm3 r3 m3 =>
    c ((x, y) :: ps) H3 ((av, bv) :: qs) μ3 ((e1.trans e2).trans e3) hm3 (.cons ⟨relA_mono (e2.trans e3) r1, relA_mono e3 r2⟩ r3) m3⟩
def mergeA (more : List (Key × AV)) : List (Key × AV) := more.foldl (fun acc q => putA acc q.1 q.2) []
theorem pk_fold {H : Hp} : ∀ {ms : List (Key × V)} {qs : List (Key × AV)} {us : List (Key × V)} {as : List (Key × AV)}, PK K H ms qs → PK K H us as → PK K H (mergeK us ms) (qs.foldl (fun acc q => putA acc q.1 q.2) as)
  | _, _, us, as, .nil, h => h
  | p :: ms, q :: qs, us, as, .cons h t, h2 => by
    show PK K H (mergeK (putK us p.1 p.2) ms) (qs.foldl _ (putA as q.1 q.2))
    refine pk_fold t ?_
    rw [h.1]
    exact pk_put h.2 h2
theorem pairs_of {H : Hp} : ∀ {kvs : List (Key × AV)} {ps : List (V × V)}, PP K H ps (kvs.map fun q => (AV.dat (kD q.1), q.2)) → ∃ us : List (Key × V), ps = us.map (fun u => (kV u.1, u.2)) ∧ PK K H us kvs
  | [], _, h => by
    cases h
    exact ⟨[], rfl, .nil⟩
  | q :: kvs, _, h => by
    cases h with
    | @cons p _ ps _ h t =>
      obtain ⟨us, e, r⟩ := pairs_of t
      refine ⟨(q.1, p.2) :: us, ?_, .cons ⟨rfl, h.2⟩ r⟩
      have e2 : p.1 = kV q.1 := key_of h.1
      rw [List.map_cons, ← e, ← e2]
def mDisp (Ms : List (DEx × DEx)) : DEx := fun δ μ P => ∀ p, μ p = none → mPairs Ms δ (mset μ p (some (.dK []))) fun ps μ2 => μ2 p = some (.dK []) ∧ ∃ kvs : List (Key × AV), ps = kvs.map (fun q => (AV.dat (kD q.1), q.2)) ∧ kvs.length ≤ 15 ∧ P (.mut p) (mset μ2 p (some (.dK (mergeA kvs))))
theorem de_disp (h : DPs X pos ks vs trs Ms) (hall : ks.all (·.isSome) = true := by rfl) (hl : ks.length = vs.length := by rfl) (h0 : ks ≠ [] := by simp) (h15 : ks.length ≤ 15 := by decide) : DE X (.Dict ks vs pos) (tDisp trs) (mDisp Ms) := ⟨pe_disp h.pp hall hl h0 h15, fun σ H Q δ μ P R hm m c p n => by
  have hp : hid H μ p = none := by rw [hid_none (hm.ne n)]; exact n
  have e0 : hid (upd H p (.dK [])) (mset μ p (some (.dK []))) = hid H μ := hid_store hp _ _
  refine h.sp σ _ _ δ (mset μ p (some (.dK []))) _ (by rw [e0]; exact R) (hm.storeK hp .nil) (m p (hm.ne n)) fun ps H2 qs μ2 e1 hm2 r2 ⟨hd, kvs, eq, h15', m2⟩ => ?_
  subst eq
  obtain ⟨us, eu, ru⟩ := pairs_of r2
  obtain ⟨ws, hw, rw'⟩ := hm2.dk hd
  cases rw'
  have hh : hid H2 μ2 p = none := hid_cell hd
  refine ⟨hw, us, eu, by rw [pk_len ru]; exact h15', c _ _ (.mut p) _ ?_ (hm2.storeK hh (pk_fold ru .nil)) rfl m2⟩
  rw [hid_store hh]
  rw [e0] at e1
  exact e1⟩
/-! d.get(k), d.get(k, x) -/
variable {o e f : Expr} {to te tf : TE} {Mo Me Mf : DEx} {apos cpos : Pos}
def mDGet1 (Mo Me : DEx) : DEx := fun δ μ P => Mo δ μ fun x μ1 => ∃ p, x = .mut p ∧ (∃ ks, μ1 p = some (.dK ks)) ∧ Me δ μ1 fun y μ2 => ∃ kvs k, y = .dat (kD k) ∧ μ2 p = some (.dK kvs) ∧ P ((valA kvs k).getD (.dat .none)) μ2
theorem de_dget1 (hu : X.A.units + 1 < cLine) (ho : DE X o to Mo) (he : DE X e te Me) (m : M1 X o "get" apos e cpos) : DE X (.Call (.Attribute o "get" apos) [e] [] cpos) (tDGet1 to te) (mDGet1 Mo Me) := ⟨pe_dget1 hu ho.pe he.pe m, fun σ H Q δ μ P R hm m c =>
  ho.se σ H _ δ μ _ R hm m fun x H1 av μ1 e1 hm1 r1 ⟨p, ea, ⟨ks, hks⟩, m1⟩ => by
    subst ea
    obtain ⟨ws, hw, _⟩ := hm1.dk hks
    refine ⟨p, r1, .inl ⟨ws, .inl hw⟩, he.se σ H1 _ δ μ1 _ (R.mono e1) hm1 m1 fun y H2 bv μ2 e2 hm2 r2 ⟨kvs, k, eb, hp, m2⟩ => ?_⟩
    subst eb
    obtain ⟨vs, h1, h2⟩ := hm2.dk hp
    refine ⟨valV vs k, .inl ⟨vs, k, .inl h1, key_of r2, rfl⟩, (c.from (e1.trans e2)).here hm2 ?_ m2⟩
    have q := pk_val (k := k) h2
    cases ev : valA kvs k with
    | none =>
      rw [q.1 ev]
      exact rN
    | some a =>
      obtain ⟨v, h3, h4⟩ := q.2 a ev
      rw [h3]
      exact h4⟩
def mDGet2 (Mo Me Mf : DEx) : DEx := fun δ μ P => Mo δ μ fun x μ1 => ∃ p, x = .mut p ∧ (∃ ks, μ1 p = some (.dK ks)) ∧ Me δ μ1 fun y μ2 => Mf δ μ2 fun z μ3 => ∃ kvs k, y = .dat (kD k) ∧ μ3 p = some (.dK kvs) ∧ P ((valA kvs k).getD z) μ3
theorem de_dget2 (hu : X.A.units + 1 < cLine) (ho : DE X o to Mo) (he : DE X e te Me) (hf : DE X f tf Mf) (m : M2 X o "get" apos e f cpos) : DE X (.Call (.Attribute o "get" apos) [e, f] [] cpos) (tDGet2 to te tf) (mDGet2 Mo Me Mf) := ⟨pe_dget2 hu ho.pe he.pe hf.pe m, fun σ H Q δ μ P R hm m c =>
  ho.se σ H _ δ μ _ R hm m fun x H1 av μ1 e1 hm1 r1 ⟨p, ea, ⟨ks, hks⟩, m1⟩ => by
    subst ea
    obtain ⟨ws, hw, _⟩ := hm1.dk hks
    refine ⟨p, r1, .inl ⟨ws, .inl hw⟩, he.se σ H1 _ δ μ1 _ (R.mono e1) hm1 m1 fun y H2 bv μ2 e2 hm2 r2 m2 => hf.se σ H2 _ δ μ2 _ ((R.mono e1).mono e2) hm2 m2 fun z H3 cv μ3 e3 hm3 r3 ⟨kvs, k, eb, hp, m3⟩ => ?_⟩
    subst eb
    obtain ⟨vs, h1, h2⟩ := hm3.dk hp
    refine ⟨valV vs k, .inl ⟨vs, k, .inl h1, key_of (relA_mono e3 r2), rfl⟩, (c.from ((e1.trans e2).trans e3)).here hm3 ?_ m3⟩
    have q := pk_val (k := k) h2
    cases ev : valA kvs k with
    | none =>
      rw [q.1 ev]
      exact r3
    | some a =>
      obtain ⟨v, h3, h4⟩ := q.2 a ev
      rw [h3]
      exact h4⟩
end
/-! dict(xs), xs a list of pairs -/
section
variable {K : PySem.W.Frag}
theorem prs_of {H : Hp} : ∀ {kvs : List (Key × PyData)} {xs : List V}, DpAll K0 H xs (kvs.map fun q => PyData.tuple [kD q.1, q.2]) → ∃ (ps : List Addr) (us : List (Key × V)), xs = ps.map V.ref ∧ Paired (fun p u => SqT K H p [kV u.1, u.2]) ps us ∧ PK K H us (kvs.map fun q => (q.1, AV.dat q.2))
  | [], _, h => by
    cases h
    exact ⟨[], [], rfl, .nil, .nil⟩
  | q :: kvs, _, h => by
    rw [List.map_cons] at h
    cases h with
    | cons a t =>
      obtain ⟨ps, us, e, r1, r2⟩ := prs_of t
      obtain ⟨p, vs, ev, h1, h2⟩ := dp_tuple (K := K) a
      cases h2 with
      | cons b1 t1 =>
        cases t1 with
        | cons b2 t2 =>
          cases t2
          have k1 := key_of (K := K) b1
          refine ⟨p :: ps, (q.1, _) :: us, by rw [ev, e]; rfl, .cons (.inl ?_) r1, .cons ⟨rfl, b2⟩ r2⟩
          rw [← k1]
          exact h1
def oDictP : DO1 := fun a μ P => ∃ kvs : List (Key × PyData), a = .dat (.list (kvs.map fun q => PyData.tuple [kD q.1, q.2])) ∧ ∀ p, μ p = none → P (.mut p) (mset μ p (some (.dK (mergeA (kvs.map fun q => (q.1, AV.dat q.2))))))
theorem so_dictP : SO1 K (fun x H Q => ∃ (a : Addr) (ps : List Addr) (us : List (Key × V)), [x] = [.ref a] ∧ SqL K H a (ps.map V.ref) ∧ Paired (fun p u => SqT K H p [kV u.1, u.2]) ps us ∧ ∀ p, H p = none → Q (.ref p) (upd H p (.dK (mergeK [] us)))) oDictP := fun x H Q a μ P hm rx ⟨kvs, e1, q⟩ c => by
  subst e1
  obtain ⟨p1, xs, rfl, h1, a1⟩ := dp_list rx
  obtain ⟨ps, us, e, r1, r2⟩ := prs_of (K := K) a1
  subst e
  refine ⟨p1, ps, us, rfl, .inl (rd_mono (hid_same H μ) h1), paired_mono (fun _ _ z => sqT_mono (hid_same H μ) z) r1, fun p n => ?_⟩
  have hp : hid H μ p = none := by rw [hid_none (hm.ne n)]; exact n
  refine c _ _ (.mut p) _ ?_ (hm.storeK hp (pk_fold r2 .nil)) rfl (q p (hm.ne n))
  rw [hid_store hp]
  exact Same.refl _
end
/-! range(a, b) -/
section
variable {X : Cx} {tg a b iter : Expr} {t : TA} {MA : DAx} {p pos : Pos}
def miR2 (MA : DAx) : DIx := fun δ μ P => MA δ μ fun as μ1 => ∃ i j : Int, as = [.dat (.int i), .dat (.int j)] ∧ (-(2 ^ 62) ≤ i ∧ i < 2 ^ 62 ∧ -(2 ^ 62) ≤ j ∧ j < 2 ^ 62) ∧ P (rangeD i (j - i).toNat) μ1
theorem di_range2 (hp : PI X tg iter (iRng2 t)) (h : SA X.K t MA) : DI X tg iter (iRng2 t) (miR2 MA) := ⟨hp, fun σ H R δ μ P Rl hm m c => h σ H _ δ μ _ Rl hm m fun xs H1 as μ1 e1 hm1 r1 ⟨i, j, ea, hb, m1⟩ => by
  subst ea
  obtain ⟨v, u, rfl, rv, ru⟩ := relAs2 r1
  rw [dp_int rv, dp_int ru]
  exact ⟨i, j, rfl, hb, c _ H1 _ μ1 e1 hm1 wk_range m1⟩⟩
theorem di_range2E (gl : Gl X "range") (hm : X.mg "range" = none) (h : DA X [a, b] t MA) (hs : starEach [a, b] X.env = [(false, eval a X.env), (false, eval b X.env)] := by rfl) (hpl : starEach [b] X.env = [(false, eval b X.env)] := by rfl) :
    DI X tg (.Call (.Name "range" p) [a, b] [] pos) (iRng2 t) (miR2 MA) := di_range2 (pi_range2 gl hm h.pa hs hpl) h.sa
end
/-! x is None; sorted(d) -/
section
variable {X : Cx} {a : Expr} {ta : TE} {Ma : DEx} {pos pos' : Pos} {K : PySem.W.Frag}
def isNon : PyData → Bool
  | .none => true
  | _ => false
theorem non_of {H : Hp} {v : V} : ∀ {d : PyData}, RelA K H v (.dat d) → decide (v = .non) = isNon d := fun {d} h => by
  have h' : Dp K0 H v d := h
  cases h' <;> simp [isNon]
def mIsN (g : Bool → Bool) (Ma : DEx) : DEx := fun δ μ P => Ma δ μ fun x μ1 => ∃ d, x = .dat d ∧ P (.dat (.bool (g (isNon d)))) μ1
theorem de_isN {j} (h : DE X a ta Ma) : DE X (.Compare a [.Is] [.Constant .none j pos'] pos) (tIsN ta) (mIsN (fun b => b) Ma) := ⟨pe_cmp (pc_isN h.pe) (by rfl), fun σ H Q δ μ P R hm m c =>
  h.se σ H _ δ μ _ R hm m fun x H1 av μ1 e1 hm1 r1 ⟨d, ea, m1⟩ => by
    subst ea
    rw [non_of r1]
    exact (c.from e1).here hm1 (rB _) m1⟩
theorem de_notN {j} (h : DE X a ta Ma) : DE X (.Compare a [.IsNot] [.Constant .none j pos'] pos) (tNotN ta) (mIsN (fun b => !b) Ma) := ⟨pe_cmp (pc_notN h.pe) (by rfl), fun σ H Q δ μ P R hm m c =>
  h.se σ H _ δ μ _ R hm m fun x H1 av μ1 e1 hm1 r1 ⟨d, ea, m1⟩ => by
    subst ea
    rw [non_of r1]
    exact (c.from e1).here hm1 (rB _) m1⟩
def oSortD : DO1 := fun a μ P => ∃ p kvs, ∃ ks : List Str, a = .mut p ∧ μ p = some (.dK kvs) ∧ kvs.map (·.1) = ks.map Sum.inr ∧ ks.length < 64 ∧ ∀ ys : List Str, ys.Perm ks → sortedS ys = true → P (.dat (.list (ys.map PyData.str))) μ
theorem pk_keys {H : Hp} : ∀ {us : List (Key × V)} {kvs : List (Key × AV)}, PK K H us kvs → us.map (·.1) = kvs.map (·.1)
  | _, _, .nil => rfl
  | _, _, .cons h t => by rw [List.map_cons, List.map_cons, h.1, pk_keys t]
theorem so_sortD : SO1 K (fun x H Q => ∃ (p : Addr) (us : List (Key × V)) (ks : List Str), [x] = [.ref p] ∧ Rd H p (.dK us) ∧ us.map (·.1) = ks.map Sum.inr ∧ ks.length < 64 ∧ ∀ ys q, ys.Perm ks → sortedS ys = true → H q = none → Q (.ref q) (upd H q (.lst (ys.map V.str)))) oSortD := fun x H Q a μ P hm rx ⟨p, kvs, ks, e1, hp, hk, hz, q⟩ c => by
  subst e1
  obtain ⟨us, h1, h2⟩ := hm.dk hp
  refine ⟨p, us, ks, by rw [show x = .ref p from rx], .inl h1, (pk_keys h2).trans hk, hz, fun ys l hpm hs n => c.new hm n (rel_lst hm n (of_strs ys)) (q ys hpm hs)⟩
end
/-! == where one may be None -/
section
variable {K : PySem.W.Frag}
def eqW : PyData → PyData → Option Bool
  | .none, .none => some true
  | .none, .int _ => some false
  | .none, .str _ => some false
  | .none, .bool _ => some false
  | .int _, .none => some false
  | .str _, .none => some false
  | .bool _, .none => some false
  | a, b => eqD a b
theorem eqw_vals {H : Hp} {x y : V} {a b : PyData} {k : Bool} (rx : RelA K H x (.dat a)) (ry : RelA K H y (.dat b)) (e : eqW a b = some k) : scal x y = true ∧ decide (x = y) = k := by
  by_cases n : eqD a b = some k
  · exact eq_vals rx ry n
  · have rx' : Dp K0 H x a := rx
    have ry' : Dp K0 H y b := ry
    cases a <;> cases b <;> simp only [eqW, eqD, Option.some.injEq, reduceCtorEq] at e <;> (try exact absurd (congrArg some e) n) <;> subst e <;> cases rx' <;> cases ry' <;> exact ⟨rfl, by simp⟩
def oEqW : DO2 := fun a b μ P => ∃ x y k, a = .dat x ∧ b = .dat y ∧ eqW x y = some k ∧ P (.dat (.bool k)) μ
theorem so_eqW : SO2 K rEq oEqW := fun x y H Q a b μ P hm rx ry ⟨d, e, k, e1, e2, ek, p⟩ c => by
  subst e1 e2
  obtain ⟨h1, h2⟩ := eqw_vals rx ry ek
  exact ⟨h1, by rw [h2]; exact c.here hm (rB _) p⟩
end
/-! operations within a comprehension -/
section
variable {X : Cx} {K : PySem.W.Frag} {a b : Expr} {ta tb : TE} {Ma Mb : DEx} {pos : Pos} {d : DO2}
theorem de_opC {op : Operator} {r : PySem.W.Frag → R2} (hK : X.K = K) (ho : OpR X (binaryOp op) (r X.K)) (hd : SO2 K (r K) d) (ha : DE X a ta Ma) (hb : DE X b tb Mb) : DE X (.BinOp a op b pos) (tOp (r K) ta tb) (mOp d Ma Mb) := by
  subst hK
  exact de_op ho hd ha hb
theorem de_cmpC {op : CmpOp} {r : PySem.W.Frag → R2} (hK : X.K = K) (ho : OpR X (compareOp op) (r X.K)) (hd : SO2 K (r K) d) (ha : DE X a ta Ma) (hb : DE X b tb Mb) (hm : behindInMarks op b = false := by first | exact nobehind _ (by decide) (by decide) | rfl) : DE X (.Compare a [op] [b] pos) (tOp (r K) ta tb) (mOp d Ma Mb) := by
  subst hK
  exact de_cmp ho hd ha hb hm
end
section
variable {X : Cx} {a : Expr} {ta : TE} {Ma : DEx} {pos pos' : Pos}
def mTIsN (g : Bool → Bool) (Ma : DEx) : DTx := fun δ μ P => Ma δ μ fun x μ1 => ∃ d, x = .dat d ∧ P (g (isNon d)) μ1
theorem dt_isN {j} (h : DE X a ta Ma) : DT X (.Compare a [.Is] [.Constant .none j pos'] pos) (tB (tIsN ta)) (mTIsN (fun b => b) Ma) := ⟨pt_cmp (pc_isN h.pe) (by rfl), fun σ H Q δ μ P R hm m c =>
  h.se σ H _ δ μ _ R hm m fun x H1 av μ1 e1 hm1 r1 ⟨d, ea, m1⟩ => by
    subst ea
    exact ⟨_, by rw [non_of r1], c _ H1 μ1 e1 hm1 m1⟩⟩
theorem dt_notN {j} (h : DE X a ta Ma) : DT X (.Compare a [.IsNot] [.Constant .none j pos'] pos) (tB (tNotN ta)) (mTIsN (fun b => !b) Ma) := ⟨pt_cmp (pc_notN h.pe) (by rfl), fun σ H Q δ μ P R hm m c =>
  h.se σ H _ δ μ _ R hm m fun x H1 av μ1 e1 hm1 r1 ⟨d, ea, m1⟩ => by
    subst ea
    exact ⟨_, by rw [non_of r1], c _ H1 μ1 e1 hm1 m1⟩⟩
theorem eqW_n : eqW .none .none = some true := rfl
theorem eqW_b {i j : Bool} : eqW (.bool i) (.bool j) = some (decide (i = j)) := rfl
theorem eqW_i {i j : Int} : eqW (.int i) (.int j) = some (decide (i = j)) := rfl
theorem eqW_s {i j : Str} : eqW (.str i) (.str j) = some (decide (i = j)) := rfl
theorem non_n : isNon .none = true := rfl
theorem non_b {i : Bool} : isNon (.bool i) = false := rfl
theorem non_i {i : Int} : isNon (.int i) = false := rfl
theorem non_s {i : Str} : isNon (.str i) = false := rfl
theorem non_l {i : List PyData} : isNon (.list i) = false := rfl
theorem non_t {i : List PyData} : isNon (.tuple i) = false := rfl
end
/-! while; len of a dict; d.pop(k) -/
section
variable {X : Cx} {c : Expr} {body : List Stmt} {pos : Pos} {tc : TT} {tb : TS} {MT : DTx} {M : DSx}
def mWhile (MT : DTx) (M : DSx) : DSx := fun D δ μ => ∃ W : Nat → Dl → Mu → Prop, (∃ m, W m δ μ) ∧ ∀ m δ' μ', W m δ' μ' → MT δ' μ' fun b μ1 =>
  if b = true then ∃ N : Dl → Mu → Prop, (∀ δ2 μ2, N δ2 μ2 → ∃ m', m' < m ∧ W m' δ2 μ2) ∧ M { D with nx := N, ct := N, bk := D.nx } δ' μ1 else D.nx δ' μ1
theorem ds_while (hp : PassesOwn (model X.prog X.w) X.A X.env X.xe) (hc : DT X c tc MT) (hb : DB X body tb M) : DS X (.While c body [] pos) (tWhile tc tb) (mWhile MT M) := ⟨ps_while hp hc.pt hb.ps, fun σ H D δ μ DD R hm ⟨W, ⟨m, w0⟩, turn⟩ k => by
  refine ⟨fun j σ' H' => ∃ δ' μ', Same (hid H μ) (hid H' μ') ∧ HM X.K H' μ' ∧ Rel X.K (hid H' μ') σ' δ' ∧ W j δ' μ', ⟨m, δ, μ, Same.refl _, hm, R, w0⟩, ?_⟩
  rintro j σ' H' ⟨δ', μ', e, hm', R', w'⟩
  refine hc.st σ' H' _ δ' μ' _ R' hm' (turn j δ' μ' w') fun b H1 μ1 e1 hm1 q => ?_
  cases b with
  | true =>
    obtain ⟨N, hN, q⟩ : ∃ N : Dl → Mu → Prop, (∀ δ2 μ2, N δ2 μ2 → ∃ m', m' < j ∧ W m' δ2 μ2) ∧ M { DD with nx := N, ct := N, bk := DD.nx } δ' μ1 := q
    refine ⟨fun σ2 H2 => ∃ δ2 μ2, Same (hid H μ) (hid H2 μ2) ∧ HM X.K H2 μ2 ∧ Rel X.K (hid H2 μ2) σ2 δ2 ∧ N δ2 μ2, ?_, ?_⟩
    · rintro σ2 H2 ⟨δ2, μ2, e2, hm2, R2, n2⟩
      obtain ⟨m', l, w2⟩ := hN δ2 μ2 n2
      exact ⟨m', l, δ2, μ2, e2, hm2, R2, w2⟩
    · exact hb.ss σ' H1 _ δ' μ1 _ (R'.mono e1) hm1 q ⟨fun σ2 H2 δ2 μ2 s hm2 R2 n2 => ⟨δ2, μ2, (e.trans e1).trans s, hm2, R2, n2⟩, k.nx.from (e.trans e1), fun σ2 H2 δ2 μ2 s hm2 R2 n2 => ⟨δ2, μ2, (e.trans e1).trans s, hm2, R2, n2⟩, k.rt.from (e.trans e1)⟩
  | false => exact k.nx σ' H1 δ' μ1 (e.trans e1) hm1 (R'.mono e1) q⟩
variable {K : PySem.W.Frag} {o e : Expr} {to te : TE} {Mo Me : DEx} {apos cpos : Pos}
def oLenK : DO1 := fun a μ P => ∃ p kvs, a = .mut p ∧ μ p = some (.dK kvs) ∧ P (.dat (.int kvs.length)) μ
theorem so_lenK : SO1 K (fun x H Q => ∃ a kvs, [x] = [V.ref a] ∧ H a = some (.dK kvs) ∧ Q (.int kvs.length) H) oLenK := fun x H Q a μ P hm rx ⟨p, kvs, e1, hp, q⟩ c => by
  subst e1
  obtain ⟨us, h1, h2⟩ := hm.dk hp
  refine ⟨p, us, by rw [show x = .ref p from rx], h1, ?_⟩
  rw [pk_len h2]
  exact c.here hm (rI _) q
def dropA (kvs : List (Key × AV)) (k : Key) : List (Key × AV) := kvs.filter fun q => decide (q.1 ≠ k)
theorem pk_drop {H : Hp} {k : Key} : ∀ {us : List (Key × V)} {kvs : List (Key × AV)}, PK K H us kvs → PK K H (dropK us k) (dropA kvs k)
  | _, _, .nil => .nil
  | p :: us, q :: kvs, .cons h t => by
    unfold dropK dropA
    by_cases z : q.1 = k
    · rw [List.filter_cons_of_neg (by simp [h.1, z]), List.filter_cons_of_neg (by simp [z])]
      exact pk_drop t
    · rw [List.filter_cons_of_pos (by simp [h.1, z]), List.filter_cons_of_pos (by simp [z])]
      exact .cons h (pk_drop t)
def mDPop (Mo Me : DEx) : DEx := fun δ μ P => Mo δ μ fun x μ1 => ∃ p, x = .mut p ∧ (∃ ks, μ1 p = some (.dK ks)) ∧ Me δ μ1 fun y μ2 => ∃ kvs k a, y = .dat (kD k) ∧ μ2 p = some (.dK kvs) ∧ valA kvs k = some a ∧ P a (mset μ2 p (some (.dK (dropA kvs k))))
theorem de_dpop (ho : DE X o to Mo) (he : DE X e te Me) (m : M1 X o "pop" apos e cpos) : DE X (.Call (.Attribute o "pop" apos) [e] [] cpos) (tDPop1 to te) (mDPop Mo Me) := ⟨pe_dpop1 ho.pe he.pe m, fun σ H Q δ μ P R hm m c =>
  ho.se σ H _ δ μ _ R hm m fun x H1 av μ1 e1 hm1 r1 ⟨p, ea, ⟨ks, hks⟩, m1⟩ => by
    subst ea
    obtain ⟨ws, hw, _⟩ := hm1.dk hks
    refine ⟨p, r1, .inl ⟨ws, .inl hw⟩, he.se σ H1 _ δ μ1 _ (R.mono e1) hm1 m1 fun y H2 bv μ2 e2 hm2 r2 ⟨kvs, k, a, eb, hp, hv, m2⟩ => ?_⟩
    subst eb
    obtain ⟨vs, h1, h2⟩ := hm2.dk hp
    obtain ⟨v, h3, h4⟩ := (pk_val h2).2 a hv
    have hh : hid H2 μ2 p = none := hid_cell hp
    refine ⟨vs, k, v, h1, key_of r2, h3, c _ _ a _ ?_ (hm2.storeK hh (pk_drop h2)) ?_ m2⟩
    · rw [hid_store hh]
      exact e1.trans e2
    · rw [hid_store hh]
      exact h4⟩
end
/-! == of any data, lists that may change among them -/
section
variable {K : PySem.W.Frag}
def AsData (μ : Mu) (a : AV) (d : PyData) : Prop := a = .dat d ∨ ∃ p ds, a = .mut p ∧ μ p = some (.lst (ds.map AV.dat)) ∧ d = .list ds
theorem AsData.dp {H : Hp} {μ : Mu} {v : V} {a : AV} {d : PyData} (hm : HM K H μ) (h : AsData μ a d) (r : RelA K (hid H μ) v a) : Dp K H v d := by
  rcases h with rfl | ⟨p, ds, rfl, hp, rfl⟩
  · exact dp_mono (hid_same H μ) (dp_up r)
  · obtain ⟨xs, h1, h2⟩ := hm.lst hp
    rw [show v = .ref p from r]
    exact .lst (.inl (.inl h1)) (dpAll_mono (hid_same H μ) (dpAll_up (relAs_dat.mpr h2)))
def oEqD (g : Bool → Bool) : DO2 := fun a b μ P => ∃ d e, AsData μ a d ∧ AsData μ b e ∧ SeqAt.shaped d = true ∧ SeqAt.shaped e = true ∧ P (.dat (.bool (g (PyData.eqv d e)))) μ
theorem so_eqD : SO2 K (rEqD K) (oEqD fun b => b) := fun x y H Q a b μ P hm rx ry ⟨d, e, h1, h2, s1, s2, p⟩ c => ⟨d, e, h1.dp hm rx, h2.dp hm ry, s1, s2, c.here hm (rB _) p⟩
theorem so_neD : SO2 K (rNeD K) (oEqD fun b => !b) := fun x y H Q a b μ P hm rx ry ⟨d, e, h1, h2, s1, s2, p⟩ c => ⟨d, e, h1.dp hm rx, h2.dp hm ry, s1, s2, c.here hm (rB _) p⟩
end
end DL

set_option maxHeartbeats 4000000
/-! sets of texts made of a list, and sorted again -/
namespace DL
open PySem PySem.Spec PyProof.Rows L2 RZ PySem.Froz
/-- at a stands a set of just the texts l, its table in order -/
def SetS (P : Program) (w : World) (h : Heap) (a : Addr) (l : List Str) : Prop :=
  ∃ D : SD, h.get? a = some (sObj "set" D) ∧ TxOk P w D l ∧ l.Nodup ∧ Ris D.2.2.place.toList ∧ (w.params.followText "set-order" = true ∨ D.2.2.led = true)
section
variable {P : Program} {w : World} {A : Around} {E : Value → Shared → Prop} {s : Shared} {a : Addr} {l : List Str}
theorem SetS.at {h h' : Heap} (R : SetS P w h a l) (k : ∀ o, h.get? a = some o → h'.get? a = some o) : SetS P w h' a l :=
  let ⟨D, ho, r⟩ := R; ⟨D, k _ ho, r⟩
/-- what adding leaves of a table's order -/
theorem tailTx_order {ep : Nat} {es : Array (Int × Value)} {t2 : SetTable} {b c : Bool} (r : Ris t2.place.toList) (l : t2.led = c) : Ris (tailTx ep es t2 b).2.2.place.toList ∧ (tailTx ep es t2 b).2.2.led = c := by
  unfold tailTx
  split
  · exact ⟨relayAll_ris _ _ _, (relayAll_led _ _ _).trans l⟩
  · exact ⟨r, l⟩
theorem addTx_order {hk : Int} {v : Value} {D : SD} (r : Ris D.2.2.place.toList) : Ris (addTx hk v D).2.2.place.toList ∧ (addTx hk v D).2.2.led = D.2.2.led := by
  have r1 := layNew_ris D.2.2 D.1 hk v r
  have l1 := layNew_led D.2.2 D.1 hk v
  unfold addTx
  exact tailTx_order (by split <;> exact r1) (by split <;> exact l1)
theorem add_text {k : Str} {t : Tok} {Q : Bool → Shared → Prop} (R : SetS P w s.heap a l) (room : l.length + 1 < scanBound)
    (hQ : ∀ b h', Heap.SameBut a s.heap h' → SetS P w h' a (if k ∈ l then l else k :: l) → Q b { s with heap := h' }) : wpAny (model P w) A (setAddHashed a (.str k t) (hashStr w k)) Q E s := by
  obtain ⟨D, ho, F, nd, r, hl⟩ := R
  by_cases hk : k ∈ l
  · obtain ⟨e, he, hi⟩ := (F.mem k).mp hk
    have sm : D.1.size < scanBound := by rw [F.sz]; omega
    have there : ∃ j, List.findIdx? (fun e => (strKind P w).is k e.2) D.1.toList = some j := by
      cases z : List.findIdx? (fun e => (strKind P w).is k e.2) D.1.toList with
      | some j => exact ⟨j, rfl⟩
      | none => exact absurd hi (by rw [List.findIdx?_eq_none_iff.mp z e he]; exact Bool.false_ne_true)
    obtain ⟨j, hj⟩ := there
    have q := hQ false s.heap (Heap.SameBut.refl a _) (by rw [if_pos hk]; exact ⟨D, ho, F, nd, r, hl⟩)
    unfold setAddHashed setAddHashedIn setAddByScan
    refine wpAny_holding (wpAny_bind (wpAny_setState_of ho rfl F.fit ?_))
    simp only [byScan_of (show (Value.str k t).scannable = true from rfl) sm F.el, ↓reduceIte]
    refine wpAny_bind (wpAny_bind (wpAny_rule (wpAny_bind (wpAny_setScan_of (is_str k t) ho rfl F.fit F.el ?_))))
    rw [hj]
    exact wpAny_pure (wpAny_pure q)
  · obtain ⟨r1, l1⟩ := addTx_order (hk := hashStr w k) (v := .str k t) r
    refine add_x ho F hk room (hQ true _ (Heap.SameBut.update _ a _) ?_)
    rw [if_neg hk]
    exact ⟨_, get_upd _ ho rfl, add_ok t F, List.nodup_cons.mpr ⟨hk, nd⟩, r1, by rw [l1]; exact hl⟩
/-- the loop of set(..): whatever is walked gives the texts ns -/
theorem fill_texts {I S : Addr} {fp wr : List Addr} {G : Array GenState → Array GenState → Prop} {n : Nat} {Pv : Nat → Value → Prop} {St : Nat → Shared → Prop} {R : Result → Shared → Prop} {ns : List Str}
    (W : WalksS P w A.in1 I fp wr G n Pv St) (out : S ∉ fp) (hn : n = ns.length) (room : n + 1 < scanBound) (is : ∀ i v, Pv i v → ∃ k t, ns[i]? = some k ∧ v = .str k t)
    (fin : ∀ s' l, Moved (S :: wr) G s s' → SetS P w s'.heap S l → (∀ k, k ∈ l ↔ k ∈ ns) → l.length ≤ n → R (.ok (.ret .none)) s') :
    ∀ (left : Nat) (s1 : Shared) (l : List Str), left ≤ n → St (n - left) s1 → SetS P w s1.heap S l → (∀ k, k ∈ l ↔ k ∈ ns.take (n - left)) → l.length ≤ n - left → (∀ s', Moved (S :: wr) G s1 s' → Moved (S :: wr) G s s') → codeAny (model P w) A (.builtin "set.update.loop" ⟨[.ref S, .ref I], []⟩) R s1 := by
  have away : S ∉ wr := fun z => out (W.sub _ z)
  intro left
  induction left with
  | zero =>
    intro s1 l _ st hS hm hz from_
    refine codeAny_builtin F.entry_set_update_loop ?_
    rw [Around.under_plainId F.plain_set_update_loop _]
    refine wpAny_bind (m := pyNext (.ref I)) (W.done s1 _ _ st fun s' mv => wpAny_pure (fin s' l (from_ s' (mv.mono fun b => List.mem_cons_of_mem _)) (hS.at fun o => mv.heap S o away) (fun k => ?_) (by omega)))
    rw [hm k, List.take_of_length_le (by omega)]
  | succ left ih =>
    intro s1 l hle st hS hm hz from_
    have hin : n - (left + 1) < n := by omega
    have hsu : n - (left + 1) + 1 = n - left := by omega
    refine codeAny_builtin F.entry_set_update_loop ?_
    rw [Around.under_plainId F.plain_set_update_loop _]
    refine wpAny_bind (m := pyNext (.ref I)) (W.item _ s1 _ _ hin st fun v s' hv st' mv => ?_)
    obtain ⟨k, t, hk, rfl⟩ := is _ v hv
    refine wpAny_bind (m := holding [Value.str k t] (setAdd S (.str k t))) (wpAny_holding ?_)
    unfold setAdd
    refine wpAny_holding (wpAny_bind ((strKind P w).pyHash (k := k) (strKind_is _ _ _ _) ?_))
    refine add_text (s := { s' with toks := s'.toks + 1 }) (hS.at fun o => mv.heap S o away) (by omega) fun b h' same hS' => ?_
    rw [hsu] at st'
    refine wpAny_pure ⟨plainId_quiet F.plain_set_update_loop _, ih _ _ (by omega) (W.frame _ s' _ _ st' (Nat.le_succ _) fun b hb o e => (same.2 b fun z => out (z ▸ hb)).trans e) hS' (fun c => ?_) ?_ fun s'' mv' => from_ s'' (Moved.trans W.gtrans ((mv.mono fun b => List.mem_cons_of_mem _).then_heap (Nat.le_succ _) fun b o hb e => (same.2 b fun z => hb (z ▸ List.mem_cons_self)).trans e) mv')⟩
    · have tk : ns.take (n - left) = ns.take (n - (left + 1)) ++ [k] := by rw [← hsu, List.take_add_one, hk]; rfl
      rw [tk, List.mem_append, List.mem_singleton, ← hm c]
      split
      · rename_i z
        exact ⟨.inl, fun y => y.elim id fun e => e ▸ z⟩
      · rw [List.mem_cons]
        exact Or.comm
    · split
      · omega
      · rw [List.length_cons]; omega
/-- a new set, empty -/
abbrev bare (w : World) : Obj := { cls := .type "set", dict := none, data := .set #[] 0 (.fresh 0 0 (!w.params.followText "set-order")) }
theorem bare_set {h : Heap} (ho : h.get? a = some (bare w)) : SetS P w h a [] := by
  refine ⟨(#[], 0, .fresh 0 0 (!w.params.followText "set-order")), ho, TxOk.nil rfl, List.nodup_nil, List.Pairwise.nil, ?_⟩
  cases z : w.params.followText "set-order"
  · exact .inr (by rw [show (SetTable.fresh 0 0 (!false)).led = true from rfl])
  · exact .inl rfl
/-- set(l), l a list of texts -/
def SetBack (P : Program) (w : World) (s : Shared) (ns : List Str) (s' : Shared) : Prop :=
  ∃ h' tk l, s' = { s with heap := h', toks := tk } ∧ SetS P w h' s.heap.objs.size l ∧ (∀ k, k ∈ l ↔ k ∈ ns) ∧ l.length ≤ ns.length ∧ ∀ b o, s.heap.get? b = some o → h'.get? b = some o
set_option maxRecDepth 100000 in
set_option maxHeartbeats 3200000 in
theorem set_of_texts {lo : Addr} {items : Array Value} {ns : List Str} {Q : Value → Shared → Prop} (calm : A.handled = none) (hl : s.heap.IsList lo items) (hit : StrsAre items.toList ns) (room : ns.length + 1 < scanBound)
    (fin : ∀ s', SetBack P w s ns s' → Q (.ref s.heap.objs.size) s') : wpAny (model P w) A (call (.type "set") [.ref lo]) Q E s := by
  have size : items.size = ns.length := by rw [← Array.length_toList]; exact StrsAre.len_eq hit
  obtain ⟨lc, ld, la, ls⟩ : ∃ o : Obj, s.heap.get? lo = some o ∧ o.cls = .type "list" ∧ ∃ n, o.data = .seq items n := hl
  obtain ⟨_, _, mro⟩ := F.called_set.mro
  have made := F.called_set.made
  have sub := F.called_set.sub
  have noty := F.called_set.notType
  have can := F.called_set.canCreate
  have args := F.typeCall_set_1 (.ref lo)
  have look := F.called_set.init.lookup
  have bind := F.called_set.init.bind (.ref s.heap.objs.size)
  have new : (s.heap.push (bare w)).get? s.heap.objs.size = some (bare w) := Heap.get?_push_size _ rfl
  have kept : ∀ b o, s.heap.get? b = some o → (s.heap.push (bare w)).get? b = some o := fun b o e => Heap.get?_push_of_some _ e
  have typed : Shared.TypeIs { s with heap := s.heap.push (bare w) } (.ref s.heap.objs.size) "set" := ⟨_, new, rfl⟩
  have sz : (s.heap.push (bare w)).objs.size = s.heap.objs.size + 1 := Heap.size_push _ _
  have lt : lo < s.heap.objs.size := Heap.lt_size ld
  refine wpAny_call (codeAny_of_tree (show wpAny _ _ (callAny (.type "set") _) _ _ _ from wpAny_pure ⟨Code.quiet_builtin _ (by decide +kernel), codeAny_builtin F.entry_type_call ?_⟩))
  rw [Around.under_plain (weight_type_call_type "set" [.ref lo] []) rfl]
  repeat (any_goals (first | assumption | wp_step))
  refine codeAny_mono (code_set_led1 (.ref lo) (E := E) (Q₁ := fun v s1 => v = .ref s.heap.objs.size ∧ s1 = { s with heap := s.heap.push (bare w) }) ⟨rfl, rfl⟩) fun r s1 back => ?_
  match r, back with
  | .ok (.ret _), ⟨e1, e2⟩ =>
    subst e1 e2
    repeat (any_goals (first | assumption | wp_step))
    refine codeAny_mono (codeAny_call_builtin (R := wants (fun r s2 => r = .none ∧ SetBack P w s ns s2) E) F.called_set.init.plain F.entry_set_init (check_set_init_1 typed ?_)) fun r s2 back => ?_
    · have inlist : (s.heap.push (bare w)).IsList lo items := ⟨lc, kept _ _ ld, la, ls⟩
      have ob : ∃ d n sl, (s.heap.push (bare w)).get? lo = some { cls := .type "list", dict := d, data := .seq items n, slots := sl } := by
        obtain ⟨o, g, c, n, d⟩ := inlist
        cases o
        simp only at c d
        subst c d
        exact ⟨_, _, _, g⟩
      obtain ⟨_, _, _, seen⟩ := ob
      have n1 := F.sub_list_set
      have n2 := F.sub_list_frozenset
      have n3 : (Value.type "list" == Value.type "dict") = false := by decide
      unfold Builtin.«set.__init__» noKeywords Builtin.Frozenset.updateFrom
      generalize hp : pyIter = iter
      wp_walk
      subst hp
      refine wpAny_pyIter_list inlist (wpAny_bind (wpAny_runValue ?_))
      have apart : lo ≠ (s.heap.push (bare w)).objs.size := by rw [sz]; exact Nat.ne_of_lt (Nat.lt_succ_of_lt lt)
      have off : s.heap.objs.size ∉ [(s.heap.push (bare w)).objs.size, lo] := by
        rw [sz]
        simp only [List.mem_cons, List.not_mem_nil, or_false, not_or]
        exact ⟨Nat.ne_of_lt (Nat.lt_succ_self _), Nat.ne_of_gt lt⟩
      refine fill_texts ((Walks.list (by simp [calm]) _ lo apart items).toS) off size (by omega) (fun i v hv => ?_) (fun s' l mv hS hm hz => ?_) items.size _ [] (Nat.le_refl _) ?_ (bare_set (Heap.get?_push_of_some _ new)) (fun k => by simp) (Nat.zero_le _) fun _ mv => mv
      · obtain ⟨hi, hv'⟩ := Array.getElem?_eq_some_iff.mp hv
        obtain ⟨t, e⟩ := SS.strs_at hit i v (by rw [Array.getElem?_toList]; exact hv)
        have hi' : i < ns.length := by omega
        exact ⟨ns[i], t, List.getElem?_eq_getElem hi', by rw [e, List.getD_eq_getElem?_getD, List.getElem?_eq_getElem hi'] <;> rfl⟩
      · have eg : s'.gens = s.gens := mv.gens
        have ed : s'.drawn = s.drawn := mv.drawn
        have eo : s'.os = s.os := mv.os
        show wpAny _ _ _ _ _ _
        refine wpAny_pure (show wpAny _ _ (ret Value.none) _ _ _ from wpAny_pure ⟨rfl, s'.heap, s'.toks, l, ?_, hS, hm, by omega, fun b o e => mv.heap b o ?_ (Heap.get?_push_of_some _ (kept b o e))⟩)
        · cases s'
          simp only at eg ed eo
          subst eg ed eo
          rfl
        · have hb := Heap.lt_size e
          rw [sz]
          simp only [List.mem_cons, List.not_mem_nil, or_false, not_or]
          exact ⟨Nat.ne_of_lt hb, Nat.ne_of_lt (Nat.lt_succ_of_lt hb)⟩
      · rw [Nat.sub_self]
        exact ⟨⟨_, Heap.get?_push_size _ rfl, rfl, rfl⟩, inlist.push _⟩
    · match r, back with
      | .ok (.ret _), ⟨e, h', tk, l, e2, y⟩ =>
        subst e e2
        repeat (any_goals (first | assumption | wp_step))
        exact fin _ ⟨h', tk, l, rfl, y⟩
      | .error _, back => exact back
  | .error _, back => exact back
/-- sorted(s), s a set of texts -/
def SortBack (s : Shared) (l : List Str) (p : Addr) (s' : Shared) : Prop :=
  ∃ (vs : List Value) (c : Nat) (ns : List Str), (∀ b o, s.heap.get? b = some o → s'.heap.get? b = some o) ∧ s'.gens = s.gens ∧ s'.os = s.os ∧ s.heap.objs.size ≤ p ∧ s'.heap.get? p = some (seqObj "list" vs.toArray c) ∧ StrsAre vs ns ∧ sortedS ns = true ∧ ns.Perm l
theorem texts_at : ∀ {es : List (Int × Value)}, ElemsOf (strKind P w) es → ∃ ks, StrsAre (es.map (·.2)) ks
  | [], _ => ⟨[], .nil⟩
  | e :: es, h => by
    obtain ⟨ks, r⟩ := texts_at (es := es) fun x hx => h x (List.mem_cons_of_mem _ hx)
    obtain ⟨⟨k, hk, _⟩, _⟩ := h e List.mem_cons_self
    obtain ⟨t, ht⟩ := Value.isStrOf_shape (show Value.isStrOf k e.2 = true from hk)
    refine ⟨k :: ks, ?_⟩
    rw [List.map_cons, ht]
    exact .cons k t r
theorem strs_perm {vs ws : List Value} (p : vs.Perm ws) : ∀ {ks : List Str}, StrsAre ws ks → ∃ ls, StrsAre vs ls ∧ ls.Perm ks := by
  induction p with
  | nil => intro ks h; exact ⟨ks, h, .refl _⟩
  | cons x _ ih =>
    intro ks h
    cases h with
    | cons k t r =>
      obtain ⟨ls, h1, h2⟩ := ih r
      exact ⟨k :: ls, .cons k t h1, h2.cons k⟩
  | swap x y l =>
    intro ks h
    cases h with
    | cons k t r =>
      cases r with
      | cons k2 t2 r => exact ⟨_, .cons k2 t2 (.cons k t r), .swap _ _ _⟩
  | trans _ _ ih1 ih2 =>
    intro ks h
    obtain ⟨ls, h1, h2⟩ := ih2 h
    obtain ⟨ms, h3, h4⟩ := ih1 h1
    exact ⟨ms, h3, h4.trans h2⟩
theorem perm_all : ∀ {l ks : List Str}, l.Nodup → (∀ k ∈ l, k ∈ ks) → ks.length ≤ l.length → l.Perm ks
  | [], ks, _, _, h => by rw [List.length_eq_zero_iff.mp (Nat.le_zero.mp h)]
  | x :: l, ks, nd, sub, h => by
    obtain ⟨n1, n2⟩ := List.nodup_cons.mp nd
    have px := List.perm_cons_erase (sub x List.mem_cons_self)
    have hl := px.length_eq
    rw [List.length_cons] at h hl
    refine ((perm_all n2 (fun k hk => ?_) (by omega)).cons x).trans px.symm
    exact (List.mem_erase_of_ne fun e : k = x => n1 (e ▸ hk)).mpr (sub k (List.mem_cons_of_mem _ hk))
theorem strs_mem {k : Str} : ∀ {vs : List Value} {ks : List Str}, StrsAre vs ks → (k ∈ ks ↔ ∃ v ∈ vs, Value.isStrOf k v = true)
  | _, _, .nil => by simp
  | _, _, .cons k' t r => by
    rw [List.mem_cons, strs_mem r]
    constructor
    · rintro (e | ⟨v, hv, z⟩)
      · exact ⟨_, List.mem_cons_self, by rw [e]; exact beq_self_eq_true k'⟩
      · exact ⟨v, List.mem_cons_of_mem _ hv, z⟩
    · rintro ⟨v, hv, z⟩
      rcases List.mem_cons.mp hv with e | hv
      · rw [e] at z
        obtain ⟨_, z⟩ := Value.isStrOf_shape z
        cases z
        exact .inl rfl
      · exact .inr ⟨v, hv, z⟩
theorem sorted_texts {Q : Value → Shared → Prop} (R : SetS P w s.heap a l) (calm : A.handled = none) (few : l.length < 64) (fin : ∀ p s', SortBack s l p s' → Q (.ref p) s') : wpAny (model P w) A (call (.builtin "sorted") [.ref a]) Q E s := by
  obtain ⟨D, ho, F, nd, r, hl⟩ := R
  obtain ⟨ks, hks⟩ := texts_at F.el
  have hz := F.sz
  have hkl : ks.length = l.length := by have := StrsAre.len_eq hks; rw [List.length_map, Array.length_toList] at this; omega
  have same : ∀ k, k ∈ ks ↔ k ∈ l := fun k => by
    rw [strs_mem hks, F.mem]
    constructor
    · rintro ⟨v, hv, z⟩
      obtain ⟨e, he, rfl⟩ := List.mem_map.mp hv
      exact ⟨e, he, z⟩
    · rintro ⟨e, he, z⟩
      exact ⟨_, List.mem_map.mpr ⟨e, he, rfl⟩, z⟩
  have pm : ks.Perm l := (perm_all nd (fun k hk => (same k).mpr hk) (by omega)).symm
  refine Calls.call_function_entry kind_sorted plain_sorted entry_sorted (args_sorted1 _) ?_
  unfold Builtin.«sorted»
  refine wpAny_bind (m := checkCount "sorted" 1 1 _) (wpAny_pure (wpAny_bind (collect_set (A := A.in1) calm ⟨_, ho, rfl, rfl⟩ F.fit (by unfold scanBound; omega) r hl fun s1 vs kp sz gn os po => ?_)))
  obtain ⟨ls, hls, pl⟩ := strs_perm po hks
  have len : vs.length < 64 := by have := StrsAre.len_eq hls; have := pl.length_eq; omega
  have made : (s1.heap.push (seqObj "list" vs.toArray 0)).get? s1.heap.objs.size = some (seqObj "list" vs.toArray 0) := Heap.get?_push_size _ rfl
  refine wpAny_bind (wpAny_newList (wpAny_bind (wpAny_holding (wpAny_call_entry slot_list_sort ⟨_, made, rfl⟩ entry_list_sort (list_sort_treeK strKind_oneLt made hls.keysOf (fun _ _ _ e => keyKind_strs (by rw [← e]; exact hls)) len fun st p1 p2 => ⟨_, rfl, ?_⟩) (args_list_sort _)))) (by rw [sizeLine_eq]; omega))
  obtain ⟨ns, i1, i2, i3⟩ := sorted_out_str hls p1 p2
  obtain ⟨c, out⟩ := sortedHeap_at (vs := vs) (out := (arrOf st).map (·.2)) made
  refine wpAny_pure ⟨_, rfl, fin _ _ ⟨_, c, ns, fun b o e => ?_, gn, os, sz, by simpa only [Array.toArray_toList] using out, i1, i3, (i2.trans pl).trans pm⟩⟩
  have old := kp b o e
  have lt := Heap.lt_size old
  exact (sortedHeap_old (Nat.ne_of_lt lt) (by rw [size_push']; exact Nat.lt_succ_of_lt lt)).trans (Heap.get?_push_of_some _ old)
end
end DL

set_option maxHeartbeats 4000000
/-! sorted, min of lists of data that are alike -/
namespace DL
open PySem PySem.Spec PyProof.Rows L2 PySem.W
abbrev leD : PyData → PyData → Bool := dataLe false fun d => d
theorem leD_total : TotalLe leD := sortLe_total _ _ _
abbrev srtD (ds : List PyData) : List PyData := ds.mergeSort leD
theorem srtD_perm (ds : List PyData) : (srtD ds).Perm ds := List.mergeSort_perm ds _
theorem srtD_rise (ds : List PyData) : (srtD ds).Pairwise fun x y => leD x y = true := sort_pairwise leD_total ds
theorem srtD_len (ds : List PyData) : (srtD ds).length = ds.length := (srtD_perm ds).length_eq
theorem srtD_mem {ds : List PyData} {d : PyData} : d ∈ srtD ds ↔ d ∈ ds := (srtD_perm ds).mem_iff
section
variable {X : Cx} {K : PySem.W.Frag}
/-- sorted(l), l a list of alike data: each item with what stands there for it -/
def rSortA (K : PySem.W.Frag) : List V → Hp → VK → Prop := fun xs H Q => ∃ (l : Addr) (bs : List (PyData × V)), xs = [.ref l] ∧ SqL K H l (bs.map (·.2)) ∧ (∀ b ∈ bs, Dp K H b.2 b.1) ∧ AllAlike (bs.map (·.1)) ∧ Sortable (bs.map (·.1)) ∧ (∀ b ∈ bs, b.1.depth ≤ 60) ∧
  ∀ p, H p = none → Q (.ref p) (upd H p (.lst ((bs.mergeSort (dataLe false (·.1))).map (·.2))))
theorem vals_each {bs : List (PyData × V)} : ∀ {us : List Value}, Vals (bs.map (·.2)) us → EachIs (fun u b => RelV b.2 u) us bs := by
  induction bs with
  | nil => intro us h; cases h; exact .nil
  | cons b r ih => intro us h; cases h with | cons x y => exact .cons x (ih y)
theorem each_vals {bs : List (PyData × V)} : ∀ {us : List Value}, EachIs (fun u b => RelV b.2 u) us bs → Vals (bs.map (·.2)) us := by
  induction bs with
  | nil => intro us h; cases h; exact .nil
  | cons b r ih => intro us h; cases h with | cons x y => exact .cons x (ih y)
theorem each_with {α β : Type} {R S : α → β → Prop} {bs : List β} (h : ∀ b ∈ bs, ∀ a, R a b → S a b) : ∀ {as : List α}, EachIs R as bs → EachIs S as bs := by
  induction bs with
  | nil => intro as e; cases e; exact .nil
  | cons b r ih => intro as e; cases e with | cons x y => exact .cons (h b List.mem_cons_self _ x) (ih (fun b' hb => h b' (List.mem_cons_of_mem _ hb)) y)
theorem cr_sortA (hu : X.A.units + 64 < cLine) : CallR X (.builtin "sorted") (rSortA X.K) := by
  intro pins s σ H xs us Q I r ⟨l, bs, e, hs, hd, ha, hk, h60, q⟩
  subst e
  obtain ⟨its, rv, hl, hz⟩ := I.list hs
  obtain ⟨u, rfl, ru⟩ := vals1 r
  obtain rfl : u = Value.ref l := ru
  have ev := vals_each rv
  have hlen : its.length = bs.length := ev.length
  have hbl : (bs.map (·.2)).length = bs.length := List.length_map _
  refine sorted_data (s := s) (enc := fun b : PyData × V => b.1) (bs := bs) (R := fun u b => RelV b.2 u) hl.isList ev (each_with (fun b hb u ru => Dp.reads I b.1 b.2 u (hd b hb) ru) ev) ha hk (by omega) (fun b hb => by have := h60 b hb; omega) fun out ho eo => ?_
  have kp : ∀ b o, s.heap.get? b = some o → (sortedAll s.heap its (List.toArray out)).get? b = some o := fun b o e => sortedAll_old e
  obtain ⟨n, hn⟩ := sortedAll_at s.heap its (List.toArray out)
  refine ⟨.ref (s.heap.objs.size + 1), upd H (s.heap.objs.size + 1) (.lst ((bs.mergeSort (dataLe false fun b : PyData × V => b.1)).map (·.2))), I.laid (t' := s.toks) kp (Nat.le_succ _) ⟨?_, out, n, each_vals eo, hn⟩, rfl, q _ (I.hok.fresh (Nat.le_succ _))⟩
  have := (each_vals eo).length
  rw [List.length_map, List.length_mergeSort] at *
  omega
def pairAll {K : PySem.W.Frag} {H : Hp} : ∀ {vs : List V} {ds : List PyData}, DpAll K H vs ds → ∀ b ∈ ds.zip vs, Dp K H b.2 b.1
  | _, _, .nil, b, hb => by cases hb
  | _, _, .cons x y, b, hb => by
    rcases List.mem_cons.mp hb with e | e
    · rw [e]; exact x
    · exact pairAll y b e
theorem zipped {K : PySem.W.Frag} {H : Hp} {bs : List (PyData × V)} (h : ∀ b ∈ bs, Dp K H b.2 b.1) : DpAll K H (bs.map (·.2)) (bs.map (·.1)) := by
  induction bs with
  | nil => exact .nil
  | cons b r ih => exact .cons (h b List.mem_cons_self) (ih fun c hc => h c (List.mem_cons_of_mem _ hc))
theorem sorted_pairs (bs : List (PyData × V)) : (bs.mergeSort (dataLe false fun b : PyData × V => b.1)).map (·.1) = srtD (bs.map (·.1)) := List.map_mergeSort fun a _ b _ => rfl
theorem sort_dl {H : Hp} {μ : Mu} {x : V} {a : AV} {ds : List PyData} {Q : VK} (hm : HM K H μ) (rx : RelA K (hid H μ) x a) (h : AsData μ a (.list ds)) (hal : AllAlike ds) (hs : Sortable ds) (h60 : ∀ d ∈ ds, d.depth ≤ 60)
    (fin : ∀ vs p, H p = none → DpAll K0 (hid H μ) vs (srtD ds) → Q (.ref p) (upd H p (.lst vs))) : rSortA K [x] H Q := by
  have go : ∀ {l : Addr} {vs : List V}, x = .ref l → SqL K H l vs → DpAll K0 (hid H μ) vs ds → rSortA K [x] H Q := fun {l vs} e1 h1 h2 => by
    have hl := dpAll_len h2
    have z1 : (ds.zip vs).map (·.1) = ds := List.map_fst_zip (by omega)
    have z2 : (ds.zip vs).map (·.2) = vs := List.map_snd_zip (by omega)
    have hb := pairAll h2
    refine ⟨l, ds.zip vs, by rw [e1], by rw [z2]; exact h1, fun b hb' => dp_mono (hid_same H μ) (dp_up (hb b hb')), by rw [z1]; exact hal, by rw [z1]; exact hs, fun b hb' => h60 _ ?_, fun p hp => fin _ p hp ?_⟩
    · rw [← z1]; exact List.mem_map.mpr ⟨b, hb', rfl⟩
    · have q := zipped (bs := (ds.zip vs).mergeSort (dataLe false fun b : PyData × V => b.1)) fun b hb' => hb b ((List.mergeSort_perm _ _).mem_iff.mp hb')
      rw [sorted_pairs, z1] at q
      exact q
  rcases h with rfl | ⟨p, ds', rfl, hp, e⟩
  · obtain ⟨p1, v1, e1, h1, a1⟩ := dp_list rx
    exact go e1 (.inl (rd_mono (hid_same H μ) h1)) a1
  · cases e
    obtain ⟨xs, h1, h2⟩ := hm.lst hp
    exact go (show x = .ref p from rx) (.inl (.inl h1)) (relAs_dat.mpr h2)
def oSortA : DO1 := fun a μ P => ∃ ds, AsData μ a (.list ds) ∧ AllAlike ds ∧ Sortable ds ∧ (∀ d ∈ ds, d.depth ≤ 60) ∧ P (.dat (.list (srtD ds))) μ
theorem so_sortA : SO1 K (fun x H Q => rSortA K [x] H Q) oSortA := fun x H Q a μ P hm rx ⟨ds, h1, h2, h3, h4, p⟩ c =>
  sort_dl hm rx h1 h2 h3 h4 fun vs q hq hv => c.new hm hq (rel_lst hm hq hv) p
def oSortAM : DO1 := fun a μ P => ∃ ds, AsData μ a (.list ds) ∧ AllAlike ds ∧ Sortable ds ∧ (∀ d ∈ ds, d.depth ≤ 60) ∧ ∀ p, μ p = none → P (.mut p) (mset μ p (some (.lst ((srtD ds).map AV.dat))))
theorem so_sortAM : SO1 K (fun x H Q => rSortA K [x] H Q) oSortAM := fun x H Q a μ P hm rx ⟨ds, h1, h2, h3, h4, p⟩ c =>
  sort_dl hm rx h1 h2 h3 h4 fun vs q hq hv => c.cell hm hq (relAs_dat.mp hv) (p q (hm.ne hq))
/-- min(l), l a list of alike data -/
def rMinA (K : PySem.W.Frag) : List V → Hp → VK → Prop := fun xs H Q => ∃ (l : Addr) (vs : List V) (x : PyData) (ds : List PyData), xs = [.ref l] ∧ SqL K H l vs ∧ DpAll K H vs (x :: ds) ∧ AlikeAll (x :: ds) ∧ PyData.depthAll (x :: ds) ≤ 60 ∧
  ∀ (i : Nat) (v : V), vs[i]? = some v → (x :: ds)[i]? = some (minD x ds) → Q v H
theorem minD_mem : ∀ (ds : List PyData) (x : PyData), minD x ds ∈ x :: ds
  | [], x => by simp [minD]
  | d :: ds, x => by
    have q := minD_mem ds (if dataLt d x then d else x)
    unfold minD at q ⊢
    rw [List.foldl_cons]
    rcases List.mem_cons.mp q with e | e
    · rw [e]; split <;> simp
    · exact List.mem_cons_of_mem _ (List.mem_cons_of_mem _ e)
theorem reads_at {h : Heap} : ∀ {vs : List Value} {ds : List PyData} {as : List Addr} {i : Nat} {v : Value}, ReadsAll h vs ds as → vs[i]? = some v → ∃ d bs, ds[i]? = some d ∧ Reads h v d bs
  | _, _, _, _, _, .nil, e => by simp at e
  | _, _, _, 0, _, .cons a _, e => by simp at e; subst e; exact ⟨_, _, rfl, a⟩
  | _, _, _, i + 1, _, .cons _ b, e => by
    obtain ⟨d, bs, h1, h2⟩ := reads_at (i := i) b (by simpa using e)
    exact ⟨d, bs, by simpa using h1, h2⟩
theorem cr_minA (hc : X.calm = true) (hu : X.A.units + 64 < cLine) : CallR X (.builtin "min") (rMinA X.K) := by
  intro pins s σ H xs us Q I r ⟨l, vs, x, ds, e, hs, hd, ha, hz, q⟩
  subst e
  obtain ⟨its, rv, hl, _⟩ := I.list hs
  obtain ⟨u, rfl, ru⟩ := vals1 r
  obtain rfl : u = Value.ref l := ru
  obtain ⟨as, hr⟩ := Dp.readsAll I (x :: ds) vs its hd rv
  refine min_list_data (s := s) (x := x) (xs := ds) (as := as) (I.ok.hd hc) hl.isList (by simpa using hr) ha (by omega) fun i v h' tk bs hv rm hk => ?_
  have hv' : its[i]? = some v := by simpa using hv
  obtain ⟨d, cs, h1, h2⟩ := reads_at hr hv'
  have hdm : d ∈ x :: ds := List.mem_of_getElem? h1
  have e := alike_unique d (minD x ds) v cs bs (ha.1 _ hdm _ (minD_mem ds x)) (PyProof.Rows.Reads.keeps hk h2) rm
  have hi : i < vs.length := by rw [rv.length]; exact (List.getElem?_eq_some_iff.mp hv').1
  obtain ⟨v', e', rr⟩ := Vals.get rv (List.getElem?_eq_getElem hi)
  rw [hv'] at e'
  cases e'
  exact ⟨_, H, I.kept hk, rr, q i _ (List.getElem?_eq_getElem hi) (by rw [h1, e])⟩
def oMinA : DO1 := fun a μ P => ∃ x ds, AsData μ a (.list (x :: ds)) ∧ AlikeAll (x :: ds) ∧ PyData.depthAll (x :: ds) ≤ 60 ∧ P (.dat (minD x ds)) μ
theorem dpAll_mono' {H H' : Hp} (e : Same H H') {vs : List V} {ds : List PyData} (h : DpAll K0 H vs ds) : DpAll K H' vs ds := dpAll_up (dpAll_mono e h)
theorem so_minA : SO1 K (fun x H Q => rMinA K [x] H Q) oMinA := fun x H Q a μ P hm rx ⟨y, ds, ha, hal, hz, p⟩ c => by
  have go : ∀ {l : Addr} {vs : List V}, x = .ref l → SqL K H l vs → DpAll K0 (hid H μ) vs (y :: ds) → rMinA K [x] H Q := fun {l vs} e1 h1 h2 =>
    ⟨l, vs, y, ds, by rw [e1], h1, dpAll_mono' (hid_same H μ) h2, hal, hz, fun i v hv hi => by
      obtain ⟨d, hd, r⟩ := dpAll_getV h2 hv
      rw [hi] at hd
      cases hd
      exact c.here hm (a := .dat _) r p⟩
  rcases ha with rfl | ⟨p, ds', rfl, hp, e⟩
  · obtain ⟨p1, v1, e1, h1, a1⟩ := dp_list rx
    exact go e1 (.inl (rd_mono (hid_same H μ) h1)) a1
  · cases e
    obtain ⟨xs, h1, h2⟩ := hm.lst hp
    exact go (show x = .ref p from rx) (.inl (.inl h1)) (relAs_dat.mpr h2)
theorem keys_dp {H : Hp} : ∀ {ks : List Key} {vs : List V}, DpAll K0 H vs (ks.map kD) → vs = ks.map kV
  | [], _, .nil => rfl
  | .inl _ :: _, _, .cons (.int _) r => by rw [keys_dp r]; rfl
  | .inr _ :: _, _, .cons (.str _) r => by rw [keys_dp r]; rfl
/-! rows (number, text, text) -/
abbrev ARow := Int × Str × Str
def rowD3 (r : ARow) : PyData := .tuple [.int r.1, .str r.2.1, .str r.2.2]
theorem lt_row3 {r r' : ARow} (h : r'.1 < r.1) : dataLt (rowD3 r') (rowD3 r) = true := by
  unfold rowD3
  rw [dataLt_tuple, dataLt_all_no (by rfl) (by simp [PyData.eqv]; omega), dataLt_int]
  exact decide_eq_true h
theorem lt_trans_D {x y z : PyData} (h1 : leD x y = true) (h2 : leD y z = true) : leD x z = true := leD_total.trans _ _ _ h1 h2
theorem minD_least : ∀ (ds : List PyData) (x : PyData), ∀ y ∈ x :: ds, leD (minD x ds) y = true
  | [], x, y, hy => by
    rw [List.mem_singleton.mp hy]
    exact (leD_total.total _ _).elim id id
  | d :: ds, x, y, hy => by
    have e : minD x (d :: ds) = minD (if dataLt d x then d else x) ds := rfl
    rw [e]
    have low : ∀ z, z = x ∨ z = d → leD (if dataLt d x then d else x) z = true := fun z hz => by
      cases c : dataLt d x with
      | true =>
        have dx : leD d x = true := by
          rcases leD_total.total d x with q | q
          · exact q
          · exact absurd q (by show ¬ (!dataLt d x) = true; rw [c]; simp)
        rcases hz with rfl | rfl
        · exact dx
        · exact (leD_total.total _ _).elim id id
      | false =>
        have xd : leD x d = true := by show (!dataLt d x) = true; rw [c]; rfl
        rcases hz with rfl | rfl
        · exact (leD_total.total _ _).elim id id
        · exact xd
    have least := minD_least ds (if dataLt d x then d else x)
    rcases List.mem_cons.mp hy with z | z
    · exact lt_trans_D (least _ List.mem_cons_self) (low y (.inl z))
    · rcases List.mem_cons.mp z with z | z
      · exact lt_trans_D (least _ List.mem_cons_self) (low y (.inr z))
      · exact least y (List.mem_cons_of_mem _ z)
theorem alike_row3 (r r' : ARow) : alike (rowD3 r) (rowD3 r') = true := by simp [rowD3, alike, alikeAll]
theorem rows_alike (rows : List ARow) : AlikeAll (rows.map rowD3) := by
  refine ⟨fun x hx y hy => ?_, fun x hx => ?_⟩
  · obtain ⟨r, _, rfl⟩ := List.mem_map.mp hx
    obtain ⟨r', _, rfl⟩ := List.mem_map.mp hy
    exact alike_row3 r r'
  · obtain ⟨r, _, rfl⟩ := List.mem_map.mp hx
    simp [rowD3]
theorem rows_depth (rows : List ARow) : PyData.depthAll (rows.map rowD3) ≤ 60 := by
  refine Nat.le_trans ?_ (show 1 ≤ 60 by decide)
  induction rows with
  | nil => simp [PyData.depthAll]
  | cons r rows ih => simp only [List.map_cons, PyData.depthAll, rowD3, PyData.depth]; omega
def oMinR : DO1 := fun a μ P => ∃ rows : List ARow, AsData μ a (.list (rows.map rowD3)) ∧ 0 < rows.length ∧ ∀ r ∈ rows, (∀ r' ∈ rows, r.1 ≤ r'.1) → P (.dat (rowD3 r)) μ
theorem so_minR : SO1 K (fun x H Q => rMinA K [x] H Q) oMinR := fun x H Q a μ P hm rx ⟨rows, ha, hne, q⟩ c => by
  cases rows with
  | nil => exact absurd hne (by simp)
  | cons r0 rows =>
    obtain ⟨r, hr, e⟩ := List.mem_map.mp (show minD (rowD3 r0) (rows.map rowD3) ∈ (r0 :: rows).map rowD3 from minD_mem _ _)
    refine so_minA x H Q a μ P hm rx ⟨rowD3 r0, rows.map rowD3, ha, rows_alike (r0 :: rows), rows_depth (r0 :: rows), ?_⟩ c
    rw [← e]
    refine q r hr fun r' hr' => Int.not_lt.mp fun lt => ?_
    have q := minD_least (rows.map rowD3) (rowD3 r0) (rowD3 r') (List.mem_map_of_mem (f := rowD3) hr')
    rw [← e] at q
    have q' : (!dataLt (rowD3 r') (rowD3 r)) = true := q
    rw [lt_row3 lt] at q'
    cases q'
end
end DL

set_option maxHeartbeats 4000000
/-! what the heath's own going asks: min of rows, sorted(set(..)), d != {}, lists that change and are walked meanwhile -/
namespace DL
open PySem PySem.Spec PyProof.Rows L2 RZ
section
variable {X : Cx} {K : PySem.W.Frag}
/-! d != {} -/
def rNeE : R2 := fun x y H Q => ∃ a b ks, x = .ref a ∧ y = .ref b ∧ H a = some (.dK ks) ∧ H b = some (.dK []) ∧ Q (.bl (!ks.isEmpty)) H
theorem op_neE (hu : X.A.units < cLine) : OpR X (compareOp .NotEq) rNeE := by
  intro pins s σ H x y v u Q I rx ry h
  obtain ⟨a, b, ks, rfl, rfl, ea, eb, q⟩ := h
  obtain rfl : v = Value.ref a := rx
  obtain rfl : u = Value.ref b := ry
  obtain ⟨_, ya, va, ra, da⟩ := (show ObjOk X.prog X.w H s.heap a (.dK ks) from I.hok a _ ea)
  obtain ⟨_, yb, vb, rb, db⟩ := (show ObjOk X.prog X.w H s.heap b (.dK []) from I.hok b _ eb)
  have l2 : vb.length = 0 := by rw [← rb.length]; rfl
  have l1 := ra.length
  refine PySem.W.keq_ne (knd := mixKind X.prog X.w) (r := true) ya yb da db hu (fun e => ?_) (fin_bl I q ?_)
  · have : va = [] := List.length_eq_zero_iff.mp (e.trans l2)
    rw [this]
    exact .nil
  · rw [l2, ← l1]
    cases ks <;> simp
def oNeE : DO2 := fun a b μ P => ∃ p q kvs, a = .mut p ∧ b = .mut q ∧ μ p = some (.dK kvs) ∧ μ q = some (.dK []) ∧ P (.dat (.bool (!kvs.isEmpty))) μ
theorem so_neE : SO2 K rNeE oNeE := fun x y H Q a b μ P hm rx ry ⟨p, q, kvs, e1, e2, h1, h2, m⟩ c => by
  subst e1 e2
  obtain ⟨us, g1, g2⟩ := hm.dk h1
  obtain ⟨ws, g3, g4⟩ := hm.dk h2
  cases g4
  refine ⟨p, q, us, rx, ry, g1, g3, ?_⟩
  have : us.isEmpty = kvs.isEmpty := by
    have := pk_len g2
    cases us <;> cases kvs <;> simp at this ⊢
  rw [this]
  exact c.here hm (rB _) m
/-! sorted(set(names)) -/
def SetSO (P : Program) (w : World) (a : Addr) (l : List Str) : HO := .ext fun h => SetS P w h a l
theorem setSO_new {w : World} {P : Program} {H : Hp} {h : Heap} {a : Addr} {l : List Str} (R : SetS P w h a l) : ObjOk P w H h a (SetSO P w a l) :=
  ⟨R, let ⟨_, ho, _⟩ := R; ⟨_, ho⟩, fun _ _ p k => SetS.at p k⟩
def rSetL (K : PySem.W.Frag) (P : Program) (w : World) : List V → Hp → VK → Prop := fun xs H Q => ∃ (a : Addr) (ys : List Str), xs = [.ref a] ∧ SqL K H a (ys.map V.str) ∧ ys.length + 1 < scanBound ∧
  ∀ p l, H p = none → (∀ k, k ∈ l ↔ k ∈ ys) → l.length ≤ ys.length → Q (.ref p) (upd H p (SetSO P w p l))
theorem cr_setL (hc : X.calm = true) : CallR X (.type "set") (rSetL X.K X.prog X.w) := by
  intro pins s σ H xs us Q I r ⟨a, ys, e, hs, hb, q⟩
  subst e
  obtain ⟨its, rv, hl, _⟩ := I.list hs
  rw [Vals.ref1 r]
  refine set_of_texts (ns := ys) (I.ok.hd hc) hl.isList (by simpa using rv.strs) hb fun s' ⟨h', t, l, e, S, m, z, kp⟩ => ?_
  subst e
  exact ⟨.ref _, _, I.laid (t' := t) kp (Nat.le_refl _) (setSO_new S), rfl, q _ l (I.hok.fresh (Nat.le_refl _)) m z⟩
def rSortSS (P : Program) (w : World) : List V → Hp → VK → Prop := fun vs H Q => ∃ (a : Addr) (l : List Str), vs = [V.ref a] ∧ H a = some (SetSO P w a l) ∧ l.length < 64 ∧
  ∀ (ns : List Str) (p : Addr), sortedS ns = true → ns.Nodup → ns.Perm l → H p = none → Q (.ref p) (upd H p (.lst (ns.map V.str)))
theorem cr_sortSS (hc : X.calm = true) : CallR X (.builtin "sorted") (rSortSS X.prog X.w) := by
  intro pins s σ H vs us Q I r ⟨a, l, e, ha, few, q⟩
  subst e
  rw [Vals.ref1 r]
  have S : SetS X.prog X.w s.heap a l := (I.hok a _ ha).1
  have nd : l.Nodup := let ⟨_, _, _, nd, _⟩ := S; nd
  refine sorted_texts S (I.ok.hd hc) few fun p s' ⟨out, c, ns, kp, g, o, hp, hg, hi, hs, pm⟩ => ?_
  have new : H p = none := I.hok.fresh hp
  have few' : (ns.map V.str).length ≤ sizeLine := by rw [List.length_map, pm.length_eq, sizeLine_eq]; omega
  have J : Inv X pins σ (upd H p (.lst (ns.map V.str))) { s with heap := s'.heap, gens := s'.gens, drawn := s'.drawn, toks := s'.toks } :=
    I.call (ch := []) (Un.laid kp hp new) (I.hok.laid kp hp ⟨few', out, c, vals_of_strs hi, hg⟩) (by rw [g]; exact I.bare) fun _ z => nomatch z
  refine ⟨.ref p, _, ?_, rfl, q ns p hs (pm.nodup_iff.mpr nd) pm new⟩
  obtain ⟨h', g', d', t', o'⟩ := s'
  simp only at g o
  subst g o
  exact J
variable {e : Expr} {te : TE} {Me : DEx} {pos pos2 p p2 : Pos}
def oSortSet : DO1 := fun a μ P => ∃ ys : List Str, a = .dat (.list (ys.map PyData.str)) ∧ ys.length < 64 ∧ ∀ ns : List Str, sortedS ns = true → ns.Nodup → (∀ k, k ∈ ns ↔ k ∈ ys) → P (.dat (.list (ns.map PyData.str))) μ
theorem de_sortSet (hc : X.calm = true) (g1 : Gl X "sorted") (m1 : X.mg "sorted" = none) (g2 : Gl X "set") (m2 : X.mg "set" = none) (h : DE X e te Me)
    (v1 : bootBuiltins "sorted" = some (.builtin "sorted") := by decide +kernel) (v2 : bootBuiltins "set" = some (.type "set") := by decide +kernel)
    (he : starEach [.Call (.Name "set" p2) [e] [] pos2] X.env = [(false, eval (.Call (.Name "set" p2) [e] [] pos2) X.env)] := by rfl) (he2 : starEach [e] X.env = [(false, eval e X.env)] := by rfl) :
    DE X (.Call (.Name "sorted" p) [.Call (.Name "set" p2) [e] [] pos2] [] pos) (tCB (rSortSS X.prog X.w) (tCons (tCB (rSetL X.K X.prog X.w) (tCons te tNil)) tNil)) (mUn oSortSet Me) :=
  ⟨pe_callB (cr_sortSS hc) g1 m1 v1 (pa_cons (pe_callTy (cr_setL hc) g2 m2 v2 (pa_cons h.pe pa_nil he2) (by decide) (by decide) he2 rfl) pa_nil he) (by decide) (by decide) he rfl, fun σ H Q δ μ P R hm m c =>
    h.se σ H _ δ μ _ R hm m fun x H1 av μ1 e1 hm1 r1 ⟨ys, ea, hz, m1⟩ => by
      subst ea
      obtain ⟨l, xs, rfl, h1, h2⟩ := dp_list r1
      rw [strs_of h2] at h1
      refine ⟨l, ys, rfl, .inl (rd_mono (hid_same H1 μ1) h1), by unfold scanBound; omega, fun q ls nq same few => ?_⟩
      have hm2 := hm1.new nq (SetSO X.prog X.w q ls)
      refine ⟨q, ls, rfl, upd_same, by omega, fun ns q2 hs hnd pm nq2 => ?_⟩
      exact (c.from (e1.trans (hid_new hm1 nq _))).new hm2 nq2 (rel_lst hm2 nq2 (of_strs ns)) (m1 ns hs hnd fun k => by rw [pm.mem_iff, same])⟩
end
/-! ### lists that change and are walked -/
structure DWkN (K : PySem.W.Frag) (J : It) (ds : List PyData) (N : Mu → Prop) : Prop where
  goes : ∀ i H μ, i < ds.length → HM K H μ → N μ → J.go i H
  stops : ∀ H μ, HM K H μ → N μ → J.stop ds.length H
  yields : ∀ i H μ x H', i < ds.length → HM K H μ → N μ → J.yld i H x H' → ∃ d, ds[i]? = some d ∧ Same (hid H μ) (hid H' μ) ∧ HM K H' μ ∧ Dp K0 (hid H' μ) x d
abbrev DIn := Dl → Mu → (List PyData → (Mu → Prop) → Mu → Prop) → Prop
def SIn (K : PySem.W.Frag) (wi : TI) (M : DIn) : Prop := ∀ σ H R δ μ P, Rel K (hid H μ) σ δ → HM K H μ → M δ μ P → (∀ J H' ds N μ', Same (hid H μ) (hid H' μ') → HM K H' μ' → DWkN K J ds N → P ds N μ' → R J H') → wi σ H R
structure DJ (X : Cx) (tg iter : Expr) (wi : TI) (M : DIn) : Prop where
  pi : PI X tg iter wi
  si : SIn X.K wi M
section
variable {X : Cx} {K : PySem.W.Frag} {e : Expr} {es : List Expr} {te : TE} {Me : DEx} {pos : Pos} {vs : List Nat} {tg iter : Expr} {t : TS} {M : DSx} {body : List Stmt}
/-- the cell p holds ds -/
def HoldL (p : Addr) (ds : List PyData) : Mu → Prop := fun μ => μ p = some (.lst (ds.map AV.dat))
def miM (Me : DEx) : DIn := fun δ μ P => Me δ μ fun a μ1 => ∃ p ds, a = .mut p ∧ μ1 p = some (.lst (ds.map AV.dat)) ∧ P ds (HoldL p ds) μ1
theorem wk_mut {p : Addr} {ds : List PyData} : DWkN K (Itl K p) ds (HoldL p ds) where
  goes := fun i H1 μ1 hi hm hN => by
    obtain ⟨xs, h1, h2⟩ := hm.lst hN
    obtain ⟨v, hv, _⟩ := dpAll_get (relAs_dat.mpr h2) (List.getElem?_eq_getElem hi)
    exact ⟨xs, v, .inl (.inl h1), hv⟩
  stops := fun H1 μ1 hm hN => by
    obtain ⟨xs, h1, h2⟩ := hm.lst hN
    exact ⟨xs, .inl (.inl h1), by rw [dpAll_len (relAs_dat.mpr h2)]; exact Nat.le_refl _⟩
  yields := fun i H1 μ1 x H' hi hm hN y => by
    obtain ⟨rfl, y⟩ := y
    obtain ⟨xs, h1, h2⟩ := hm.lst hN
    obtain ⟨d, hd, rd⟩ := dpAll_getV (relAs_dat.mpr h2) (y xs (.inl (.inl h1)))
    exact ⟨d, hd, Same.refl _, hm, rd⟩
theorem dj_mut (h : DE X iter te Me) : DJ X tg iter (iList X.K te) (miM Me) := ⟨pi_list h.pe, fun σ H R δ μ P Rl hm m c => h.se σ H _ δ μ _ Rl hm m fun v H1 a μ1 e1 hm1 r1 ⟨p, ds, ea, hp, m1⟩ => by
  subst ea
  cases (show v = .ref p from r1)
  obtain ⟨xs, h1, h2⟩ := hm1.lst hp
  exact ⟨p, rfl, ⟨xs, .inl (.inl h1)⟩, c _ H1 ds _ μ1 e1 hm1 wk_mut m1⟩⟩
def mForN (MI : DIn) (G : DGx) (M : DSx) : DSx := fun D δ μ => MI δ μ fun ds N μ1 => ∃ W : Nat → Dl → Mu → Prop, W 0 δ μ1 ∧
  (∀ i d δ' μ', ds[i]? = some d → W i δ' μ' → N μ' ∧ G (.dat d) δ' μ' fun δ2 μ2 => M { D with nx := W (i + 1), ct := W (i + 1), bk := D.nx } δ2 μ2) ∧ ∀ δ' μ', W ds.length δ' μ' → N μ' ∧ D.nx δ' μ'
theorem ds_forN {wi : TI} {MI : DIn} {g : TG} {G : DGx} (hp : PassesOwn (model X.prog X.w) X.A X.env X.xe) (hc : X.calm = true) (hi : DJ X tg iter wi MI) (hg : DG X tg g G vs) (hb : DB X body t M) (hs : ∀ x, foldedSetIterable iter X.env x = pure x := by intro _; rfl) :
    DS X (.For tg iter body [] pos) (tFor wi g t) (mForN MI G M) := ⟨ps_for hp hc hi.pi hg.pg hb.ps hs, fun σ H D δ μ DD R hm m c => hi.si σ H _ δ μ _ R hm m fun J H1 ds N μ1 e1 hm1 wk ⟨W, w0, turn, done⟩ => by
  refine ⟨fun i k σ' H' => k = ds.length - i ∧ i ≤ ds.length ∧ ∃ δ' μ', Same (hid H1 μ1) (hid H' μ') ∧ HM X.K H' μ' ∧ Rel X.K (hid H' μ') σ' δ' ∧ W i δ' μ',
    ⟨ds.length, by simp, Nat.zero_le _, δ, μ1, Same.refl _, hm1, R.mono e1, w0⟩, ?_⟩
  rintro i k σ' H' ⟨rfl, hi, δ', μ', e', hm', R', w'⟩
  by_cases hlt : i < ds.length
  · obtain ⟨hN, turn'⟩ := turn i _ δ' μ' (List.getElem?_eq_getElem hlt) w'
    refine .inr ⟨wk.goes i H' μ' hlt hm' hN, fun σ2 H2 => ∃ δ2 μ2, Same (hid H1 μ1) (hid H2 μ2) ∧ HM X.K H2 μ2 ∧ Rel X.K (hid H2 μ2) σ2 δ2 ∧ W (i + 1) δ2 μ2, fun σ2 H2 q => ⟨ds.length - (i + 1), by omega, rfl, hlt, q⟩, fun x H2 y => ?_⟩
    obtain ⟨d, hd, es, hm2, rd⟩ := wk.yields i H' μ' x H2 hlt hm' hN y
    rw [List.getElem?_eq_getElem hlt] at hd
    cases hd
    refine hg.sg x σ' H2 _ (.dat _) δ' μ' _ (R'.mono es) hm2 rd turn' fun σ3 H3 δ3 μ3 e3 hm3 R3 _ m3 => ?_
    have e13 := (e'.trans es).trans e3
    refine hb.ss σ3 H3 _ δ3 μ3 _ R3 hm3 m3 ⟨fun σ4 H4 δ4 μ4 e4 hm4 R4 w4 => ⟨δ4, μ4, e13.trans e4, hm4, R4, w4⟩, (c.nx.from e1).from e13, fun σ4 H4 δ4 μ4 e4 hm4 R4 w4 => ⟨δ4, μ4, e13.trans e4, hm4, R4, w4⟩, (c.rt.from e1).from e13⟩
  · have ei : i = ds.length := by omega
    subst ei
    obtain ⟨hN, done'⟩ := done δ' μ' w'
    exact .inl ⟨wk.stops H' μ' hm' hN, c.nx σ' H' δ' μ' (e1.trans e') hm' R' done'⟩⟩
/-- [.. for .. in a list that changes ..]; fz: what comes out is data, else it may change -/
def mLcN (fz : Bool) (MI : DIn) (G : DGx) (MT : DTx) (ME : DEx) (vs : List Nat) : DEx := fun δ μ P => MI δ μ fun ds N μ1 => ds.length ≤ sizeLine ∧ ∀ D, μ1 D = none → ∃ W : Nat → List PyData → Mu → Prop, W 0 [] (mset μ1 D (cellA [])) ∧
  (∀ i d acc μ', ds[i]? = some d → W i acc μ' → μ' D = cellA acc → N μ' ∧ G (.dat d) (wipeD δ vs) μ' fun δ2 μ2 => MT δ2 μ2 fun b μ3 =>
    if b = true then ME δ2 μ3 fun a μ4 => ∃ e, a = .dat e ∧ μ4 D = cellA acc ∧ W (i + 1) (acc ++ [e]) (mset μ4 D (cellA (acc ++ [e]))) else μ3 D = cellA acc ∧ W (i + 1) acc μ3) ∧
  ∀ acc μ', W ds.length acc μ' → μ' D = cellA acc → N μ' ∧ if fz = true then P (.dat (.list acc)) (mset μ' D none) else P (.mut D) μ'
theorem se_lcN {fz : Bool} {wi : TI} {MI : DIn} {g : TG} {G : DGx} {tt : TT} {MT : DTx} {ME : DEx} (hi : SIn K wi MI) (hg : SG K g G vs) (ht : ST K tt MT) (he : SE K te ME) : SE K (tLc wi g tt te vs) (mLcN fz MI G MT ME vs) := fun σ H Q δ μ P R hm m c => by
  refine hi σ H _ δ μ _ R hm m fun J H1 ds N μ1 e1 hm1 wk ⟨hz, m1⟩ D nD => ?_
  have hD : hid H1 μ1 D = none := by rw [hid_none (hm1.ne nD)]; exact nD
  obtain ⟨W, w0, turn, done⟩ := m1 D (hm1.ne nD)
  refine ⟨fun i k H' => k = ds.length - i ∧ i ≤ ds.length ∧ ∃ acc μ', Same (hid H1 μ1) (hid H' μ') ∧ HM K H' μ' ∧ μ' D = cellA acc ∧ acc.length ≤ i ∧ W i acc μ',
    ⟨ds.length, by simp, Nat.zero_le _, [], _, by rw [hid_store hD]; exact Same.refl _, hm1.store hD .nil, mset_same, Nat.le_refl _, w0⟩, ?_⟩
  rintro i k H' ⟨rfl, hi', acc, μ', e', hm', hc, hl, w'⟩
  by_cases hlt : i < ds.length
  · obtain ⟨hN, turn'⟩ := turn i _ acc μ' (List.getElem?_eq_getElem hlt) w' hc
    refine .inr ⟨wk.goes i H' μ' hlt hm' hN, fun H2 => ∃ acc μ2, Same (hid H1 μ1) (hid H2 μ2) ∧ HM K H2 μ2 ∧ μ2 D = cellA acc ∧ acc.length ≤ i + 1 ∧ W (i + 1) acc μ2, fun H2 q => ⟨ds.length - (i + 1), by omega, rfl, hlt, q⟩, fun x H2 y => ?_⟩
    obtain ⟨d, hd, es, hm2, rd⟩ := wk.yields i H' μ' x H2 hlt hm' hN y
    rw [List.getElem?_eq_getElem hlt] at hd
    cases hd
    have e01 := e'.trans es
    refine hg x (wipe σ vs) H2 _ (.dat _) (wipeD δ vs) μ' _ ((R.mono (e1.trans e01)).wipe vs) hm2 rd turn' fun σ3 H3 δ3 μ3 e3 hm3 R3 w3 m3 => ?_
    refine ⟨w3.trans (by
      have q : ∀ ws : List Nat, wipe (wipe σ ws) ws = wipe σ ws := by
        intro ws
        induction ws with
        | nil => rfl
        | cons w ws ih =>
          have q2 : wipe (wipe σ (w :: ws)) (w :: ws) = wipe (wipe σ ws) (w :: ws) := by
            show wipe ((wipe σ ws).set w none) (w :: ws) = _
            exact wipe_set List.mem_cons_self
          rw [q2]
          show (wipe (wipe σ ws) ws).set w none = (wipe σ ws).set w none
          rw [ih]
      exact q vs), ht σ3 H3 _ δ3 μ3 _ R3 hm3 m3 fun b H4 μ4 e4 hm4 m4 => ?_⟩
    cases b with
    | false =>
      obtain ⟨hc4, w4⟩ := m4
      exact ⟨acc, μ4, (e01.trans e3).trans e4, hm4, hc4, by omega, w4⟩
    | true =>
      refine he σ3 H4 _ δ3 μ4 _ (R3.mono e4) hm4 m4 fun y5 H5 a5 μ5 e5 hm5 r5 ⟨d5, ea, hc5, w5⟩ => ?_
      subst ea
      obtain ⟨zs, ez, rz⟩ := hm5.lst hc5
      have hp := hid_cell (H := H5) hc5
      refine ⟨zs, ez, ?_, acc ++ [d5], _, ?_, hm5.store hp (xs := zs ++ [y5]) (as := (acc ++ [d5]).map AV.dat) ?_, mset_same, by rw [List.length_append]; simp; exact hl, w5⟩
      · have q := paired_len rz
        rw [List.length_map] at q
        omega
      · rw [hid_store hp]
        exact ((e01.trans e3).trans e4).trans e5
      · rw [List.map_append]
        exact paired_append rz (.cons r5 .nil)
  · have ei : i = ds.length := by omega
    subst ei
    obtain ⟨hN, done'⟩ := done acc μ' w' hc
    refine .inl ⟨wk.stops H' μ' hm' hN, ?_⟩
    cases fz with
    | true => exact c _ H' (.dat (.list acc)) _ ((e1.trans e').trans (hid_freeze D)) (hm'.freeze D) (dp_freeze hm' hc) done'
    | false => exact c _ H' (.mut D) _ (e1.trans e') hm' rfl done'
theorem de_lcN (fz : Bool) {elt : Expr} {ifs : List Expr} {scope : Scope} {own : List (Str × Nat)} {wi : TI} {MI : DIn} {g : TG} {G : DGx} {tt : TT} {MT : DTx} {ME : DEx} (hc : X.calm = true) (hN : X.N.Nodup) (hi : DJ X tg iter wi MI) (ok : BlkOk X.N X.env.scope scope own)
    (hg : ∀ (s : Shared) (H : Hp) (C : Addr) (cl : List (Str × Addr)) (fp : List Addr), DG (X.blk s H scope (compEnvC scope cl C X.env) fp) tg g G (own.map (·.2))) (ht : ∀ (s : Shared) (H : Hp) (C : Addr) (cl : List (Str × Addr)) (fp : List Addr), DTs (X.blk s H scope (compEnvC scope cl C X.env) fp) ifs tt MT)
    (he : ∀ (s : Shared) (H : Hp) (C : Addr) (cl : List (Str × Addr)) (fp : List Addr), DE (X.blk s H scope (compEnvC scope cl C X.env) fp) elt te ME) (hs : ∀ x, foldedSetIterable iter X.env x = pure x := by intro _; rfl) :
    DE X (.ListComp elt [⟨tg, iter, ifs, 0⟩] scope pos) (tLc wi g tt te (own.map (·.2))) (mLcN fz MI G MT ME (own.map (·.2))) :=
  ⟨pe_lc hc hN hi.pi ok (fun s H C cl fp => (hg s H C cl fp).pg) (fun s H C cl fp => (ht s H C cl fp).pts) (fun s H C cl fp => (he s H C cl fp).pe) hs,
    se_lcN hi.si (hg X.s_0 X.H_0 0 [] []).sg (ht X.s_0 X.H_0 0 [] []).st (he X.s_0 X.H_0 0 [] []).se⟩
end
end DL
namespace DL
open PySem PySem.Spec PyProof.Rows L2
theorem hu1 {k : Nat} {A : Around} (h : Room k A) : A.units < cLine := by
  have := h.un
  omega
theorem hu2 {k : Nat} {A : Around} (h : Room k A) : A.units + 2 < cLine := by
  have := h.un
  omega
end DL
namespace DL
open PySem PySem.Spec PyProof.Rows L2
theorem lcN_core {fz : Bool} {MI : DIn} {G : DGx} {MT : DTx} {ME : DEx} {vs : List Nat} {δ : Dl} {μ μ1 : Mu} {P : DV} (p : Addr) (ds : List PyData) (f : PyData → Bool) (g : PyData → PyData) (hi : ∀ R : List PyData → (Mu → Prop) → Mu → Prop, R ds (HoldL p ds) μ1 → MI δ μ R) (hp : μ1 p = some (.lst (ds.map AV.dat))) (hz : ds.length ≤ sizeLine)
    (turn : ∀ d ∈ ds, ∀ (μ' : Mu) (R1 : AV → Mu → Prop) (R0 : Mu → Prop), (∀ b, μ1 b ≠ none → μ' b = μ1 b) → (f d = true → R1 (.dat (g d)) μ') → (f d = false → R0 μ') → G (.dat d) (wipeD δ vs) μ' fun δ2 μ2 => MT δ2 μ2 fun b μ3 => if b = true then ME δ2 μ3 R1 else R0 μ3)
    (done : ∀ D μ', μ1 D = none → (∀ b, b ≠ D → μ' b = μ1 b) → μ' D = cellA ((ds.filter f).map g) → if fz = true then P (.dat (.list ((ds.filter f).map g))) (mset μ' D none) else P (.mut D) μ') : mLcN fz MI G MT ME vs δ μ P := by
  refine hi _ ⟨hz, fun D hD => ⟨fun i acc μ' => acc = ((ds.take i).filter f).map g ∧ ∀ b, b ≠ D → μ' b = μ1 b, ⟨by simp, fun b hb => mset_ne hb⟩, ?_, ?_⟩⟩
  · rintro i d acc μ' hd ⟨e, hf⟩ hc
    have hil : i < ds.length := (List.getElem?_eq_some_iff.mp hd).1
    have hpD : p ≠ D := fun z => by rw [z, hD] at hp; cases hp
    have ht : ds.take (i + 1) = ds.take i ++ [d] := by rw [List.take_add_one, hd]; rfl
    refine ⟨(hf p hpD).trans hp, turn d (List.mem_of_getElem? hd) μ' _ _ (fun b hb => hf b fun z => hb (by rw [z]; exact hD)) (fun hfd => ⟨_, rfl, hc, ?_, fun b hb => by rw [mset_ne hb]; exact hf b hb⟩) fun hfd => ⟨hc, ?_, hf⟩⟩
    · rw [ht, List.filter_append, List.filter_cons_of_pos hfd, List.map_append, ← e]
      rfl
    · rw [ht, List.filter_append, List.filter_cons_of_neg (by rw [hfd]; exact Bool.false_ne_true), List.map_append, ← e]
      simp
  · rintro acc μ' ⟨e, hf⟩ hc
    have hpD : p ≠ D := fun z => by rw [z, hD] at hp; cases hp
    rw [List.take_length] at e
    subst e
    exact ⟨(hf p hpD).trans hp, done D μ' hD hf hc⟩
theorem lcN_mt {MI : DIn} {G : DGx} {MT : DTx} {ME : DEx} {vs : List Nat} {δ : Dl} {μ μ1 : Mu} {P : DV} (p : Addr) (ds : List PyData) (f : PyData → Bool) (g : PyData → PyData) (hi : ∀ R : List PyData → (Mu → Prop) → Mu → Prop, R ds (HoldL p ds) μ1 → MI δ μ R) (hp : μ1 p = some (.lst (ds.map AV.dat))) (hz : ds.length ≤ sizeLine)
    (turn : ∀ d ∈ ds, ∀ (μ' : Mu) (R1 : AV → Mu → Prop) (R0 : Mu → Prop), (∀ b, μ1 b ≠ none → μ' b = μ1 b) → (f d = true → R1 (.dat (g d)) μ') → (f d = false → R0 μ') → G (.dat d) (wipeD δ vs) μ' fun δ2 μ2 => MT δ2 μ2 fun b μ3 => if b = true then ME δ2 μ3 R1 else R0 μ3)
    (done : ∀ D, μ1 D = none → P (.mut D) (mset μ1 D (cellA ((ds.filter f).map g)))) : mLcN false MI G MT ME vs δ μ P := lcN_core p ds f g hi hp hz turn fun D μ' hD hf hc => by
  rw [if_neg Bool.false_ne_true]
  have e : μ' = mset μ1 D (cellA ((ds.filter f).map g)) := by
    funext b
    by_cases z : b = D
    · rw [z, mset_same, hc]
    · rw [mset_ne z, hf b z]
  rw [e]
  exact done D hD
theorem lcN_fz {MI : DIn} {G : DGx} {MT : DTx} {ME : DEx} {vs : List Nat} {δ : Dl} {μ μ1 : Mu} {P : DV} (p : Addr) (ds : List PyData) (f : PyData → Bool) (g : PyData → PyData) (hi : ∀ R : List PyData → (Mu → Prop) → Mu → Prop, R ds (HoldL p ds) μ1 → MI δ μ R) (hp : μ1 p = some (.lst (ds.map AV.dat))) (hz : ds.length ≤ sizeLine)
    (turn : ∀ d ∈ ds, ∀ (μ' : Mu) (R1 : AV → Mu → Prop) (R0 : Mu → Prop), (∀ b, μ1 b ≠ none → μ' b = μ1 b) → (f d = true → R1 (.dat (g d)) μ') → (f d = false → R0 μ') → G (.dat d) (wipeD δ vs) μ' fun δ2 μ2 => MT δ2 μ2 fun b μ3 => if b = true then ME δ2 μ3 R1 else R0 μ3)
    (done : P (.dat (.list ((ds.filter f).map g))) μ1) : mLcN true MI G MT ME vs δ μ P := lcN_core p ds f g hi hp hz turn fun D μ' hD hf hc => by
  rw [if_pos rfl]
  have e : mset μ' D none = μ1 := by
    funext b
    by_cases z : b = D
    · rw [z, mset_same, hD]
    · rw [mset_ne z, hf b z]
  rw [e]
  exact done
end DL
namespace DL
open PySem PySem.Spec PyProof.Rows L2
def rowOf : PyData → ARow
  | .tuple [.int a, .str b, .str c] => (a, b, c)
  | _ => (0, Str.empty, Str.empty)
theorem rowOf_D (r : ARow) : rowOf (rowD3 r) = r := rfl
theorem rows_fg (rows : List ARow) (f : ARow → Bool) (g : ARow → PyData) : (((rows.map rowD3).filter fun d => f (rowOf d)).map fun d => g (rowOf d)) = (rows.filter f).map g := by
  induction rows with
  | nil => rfl
  | cons r rows ih =>
    rw [List.map_cons]
    by_cases h : f r = true
    · rw [List.filter_cons_of_pos (p := fun d => f (rowOf d)) (show f (rowOf (rowD3 r)) = true from h), List.filter_cons_of_pos h, List.map_cons, List.map_cons, ih]
      rfl
    · rw [List.filter_cons_of_neg (p := fun d => f (rowOf d)) (show ¬ f (rowOf (rowD3 r)) = true from h), List.filter_cons_of_neg h, ih]
theorem lcN_mtR {MI : DIn} {G : DGx} {MT : DTx} {ME : DEx} {vs : List Nat} {δ : Dl} {μ μ1 : Mu} {P : DV} (p : Addr) (rows : List ARow) (f : ARow → Bool) (g : ARow → PyData) (hi : ∀ R : List PyData → (Mu → Prop) → Mu → Prop, R (rows.map rowD3) (HoldL p (rows.map rowD3)) μ1 → MI δ μ R) (hp : μ1 p = some (.lst ((rows.map rowD3).map AV.dat))) (hz : rows.length ≤ sizeLine)
    (turn : ∀ r ∈ rows, ∀ (μ' : Mu) (R1 : AV → Mu → Prop) (R0 : Mu → Prop), (∀ b, μ1 b ≠ none → μ' b = μ1 b) → (f r = true → R1 (.dat (g r)) μ') → (f r = false → R0 μ') → G (.dat (rowD3 r)) (wipeD δ vs) μ' fun δ2 μ2 => MT δ2 μ2 fun b μ3 => if b = true then ME δ2 μ3 R1 else R0 μ3)
    (done : ∀ D, μ1 D = none → P (.mut D) (mset μ1 D (cellA ((rows.filter f).map g)))) : mLcN false MI G MT ME vs δ μ P := by
  refine lcN_mt p (rows.map rowD3) (fun d => f (rowOf d)) (fun d => g (rowOf d)) hi hp (by rw [List.length_map]; exact hz) (fun d hd μ' R1 R0 h1 h2 h3 => ?_) fun D hD => by rw [rows_fg]; exact done D hD
  obtain ⟨r, hr, rfl⟩ := List.mem_map.mp hd
  exact turn r hr μ' R1 R0 h1 h2 h3
theorem lcN_fzR {MI : DIn} {G : DGx} {MT : DTx} {ME : DEx} {vs : List Nat} {δ : Dl} {μ μ1 : Mu} {P : DV} (p : Addr) (rows : List ARow) (f : ARow → Bool) (g : ARow → PyData) (hi : ∀ R : List PyData → (Mu → Prop) → Mu → Prop, R (rows.map rowD3) (HoldL p (rows.map rowD3)) μ1 → MI δ μ R) (hp : μ1 p = some (.lst ((rows.map rowD3).map AV.dat))) (hz : rows.length ≤ sizeLine)
    (turn : ∀ r ∈ rows, ∀ (μ' : Mu) (R1 : AV → Mu → Prop) (R0 : Mu → Prop), (∀ b, μ1 b ≠ none → μ' b = μ1 b) → (f r = true → R1 (.dat (g r)) μ') → (f r = false → R0 μ') → G (.dat (rowD3 r)) (wipeD δ vs) μ' fun δ2 μ2 => MT δ2 μ2 fun b μ3 => if b = true then ME δ2 μ3 R1 else R0 μ3)
    (done : P (.dat (.list ((rows.filter f).map g))) μ1) : mLcN true MI G MT ME vs δ μ P := by
  refine lcN_fz p (rows.map rowD3) (fun d => f (rowOf d)) (fun d => g (rowOf d)) hi hp (by rw [List.length_map]; exact hz) (fun d hd μ' R1 R0 h1 h2 h3 => ?_) (by rw [rows_fg]; exact done)
  obtain ⟨r, hr, rfl⟩ := List.mem_map.mp hd
  exact turn r hr μ' R1 R0 h1 h2 h3
theorem ixRow2 {r : ARow} {μ : Mu} {x : AV} : ixD (.dat (rowD3 r)) μ 2 x ↔ x = .dat (.str r.2.2) := by
  unfold rowD3
  rw [ixD_t]
  simp [ix2]
theorem ixRow1 {r : ARow} {μ : Mu} {x : AV} : ixD (.dat (rowD3 r)) μ 1 x ↔ x = .dat (.str r.2.1) := by
  unfold rowD3
  rw [ixD_t]
  simp [ix1]
theorem ixRow0 {r : ARow} {μ : Mu} {x : AV} : ixD (.dat (rowD3 r)) μ 0 x ↔ x = .dat (.int r.1) := by
  unfold rowD3
  rw [ixD_t]
  simp [ix0]
end DL
namespace DL
open PySem PySem.Spec PyProof.Rows L2
section
variable {X : Cx} {i o : Expr} {pos : Pos} {ti to : TE} {Mi Mo : DEx}
theorem dt_din (hu : X.A.units + 1 < cLine) (hi : DE X i ti Mi) (ho : DE X o to Mo) (hb : behindInMarks .In o = false := by first | exact nobehind _ (by decide) (by decide) | rfl) : DT X (.Compare i [.In] [o] pos) (tB (tDIn ti to)) (mTest (mDIn (fun b => b) Mi Mo)) := ⟨pt_cmp (pc_din hu hi.pe ho.pe) hb, st_val (de_din (pos := pos) hu hi ho hb).se⟩
theorem dt_dnotin (hu : X.A.units + 1 < cLine) (hi : DE X i ti Mi) (ho : DE X o to Mo) (hb : behindInMarks .NotIn o = false := by first | exact nobehind _ (by decide) (by decide) | rfl) : DT X (.Compare i [.NotIn] [o] pos) (tB (tDNotIn ti to)) (mTest (mDIn (fun b => !b) Mi Mo)) := ⟨pt_cmp (pc_dnotin hu hi.pe ho.pe) hb, st_val (de_dnotin (pos := pos) hu hi ho hb).se⟩
end
end DL

set_option maxHeartbeats 4000000
/-! a way's two callers, beat by beat -/
namespace DL
def frB (b r : Int) : Option Int → Int
  | none => b
  | some l => max b (l + r)
/-- by a way of β beats the first owes the second, at beat b -/
def owes (b β : Int) : Option Int → Option Int → Prop
  | _, none => False
  | none, some lb => b < lb + β
  | some la, some lb => b < lb + β ∧ la < lb - β
def inStep (b r β : Int) (la lb : Option Int) : Prop :=
  (owes b β la lb → frB b r la ≤ lb.getD 0 + β) ∧ (owes b β lb la → frB b r lb ≤ la.getD 0 + β) ∧ (¬ owes b β la lb → ¬ owes b β lb la → frB b r la ≤ frB b r lb + β ∧ frB b r lb ≤ frB b r la + β)
theorem inStep_comm {b r β : Int} {la lb : Option Int} (h : inStep b r β la lb) : inStep b r β lb la := ⟨h.2.1, h.1, fun h1 h2 => (h.2.2 h2 h1).symm⟩
/-- one beat: ca, cb: whether they call in it -/
theorem step_way {b r β : Int} {la lb : Option Int} (hβ : 1 ≤ β) (hr : 2 * β + 1 ≤ r) (ha : ∀ l, la = some l → l ≤ b) (hb : ∀ l, lb = some l → l ≤ b) (s : inStep b r β la lb) (ca cb : Bool)
    (hca : ca = true → frB b r la ≤ b + 1) (hcb : cb = true → frB b r lb ≤ b + 1)
    (ma : ∀ l, lb = some l → l + β = b + 1 → frB b r la ≤ b + 1 → ca = true) (mb : ∀ l, la = some l → l + β = b + 1 → frB b r lb ≤ b + 1 → cb = true) :
    inStep (b + 1) r β (if ca = true then some (b + 1) else la) (if cb = true then some (b + 1) else lb) := by
  obtain ⟨s1, s2, s3⟩ := s
  cases la <;> cases lb <;> cases ca <;> cases cb <;> simp only [inStep, owes, frB, Option.getD, if_true, if_false, Bool.false_eq_true, not_false_eq_true, forall_const, true_implies, false_implies, Option.some.injEq, forall_eq', reduceCtorEq, implies_true, and_true, true_and, not_true_eq_false, imp_false] at * <;> omega
/-- a hand's call -/
theorem call_way {b r β : Int} {la lb : Option Int} (hβ : 1 ≤ β) (hr : 2 * β + 1 ≤ r) (ha : ∀ l, la = some l → l ≤ b) (hb : ∀ l, lb = some l → l ≤ b) (s : inStep b r β la lb) (hca : frB b r la ≤ b) : inStep b r β (some b) lb := by
  obtain ⟨s1, s2, s3⟩ := s
  cases la <;> cases lb <;> simp only [inStep, owes, frB, Option.getD, if_true, if_false, Bool.false_eq_true, not_false_eq_true, forall_const, true_implies, false_implies, Option.some.injEq, forall_eq', reduceCtorEq, implies_true, and_true, true_and, not_true_eq_false, imp_false] at * <;> omega
end DL

set_option maxHeartbeats 4000000
/-! the going of a heath by last calls alone -/
namespace DL
open PySem
open Classical
abbrev Way := Str × Str × Str × Int
/-- a call of x is heard by y, by the way w, β beats later -/
def sends (ways : List Way) (x y w : Str) (β : Int) : Prop := ∃ q ∈ ways, q.1 = w ∧ q.2.2.2 = β ∧ ((q.2.1 = x ∧ q.2.2.1 = y) ∨ (q.2.2.1 = x ∧ q.2.1 = y))
theorem sends_comm {ways : List Way} {x y w : Str} {β : Int} (h : sends ways x y w β) : sends ways y x w β := by
  obtain ⟨q, h1, h2, h3, h4⟩ := h
  exact ⟨q, h1, h2, h3, h4.elim (fun z => .inr ⟨z.2, z.1⟩) fun z => .inl ⟨z.2, z.1⟩⟩
def hears (ways : List Way) (last : Str → Option Int) (t : Int) (y : Str) : Prop := ∃ x w β, sends ways x y w β ∧ last x = some (t - β)
def may (rest : Int) (last : Str → Option Int) (t : Int) (c : Str) : Prop := ∀ l, last c = some l → l + rest ≤ t
def callsAt (ways : List Way) (rest : Int) (last : Str → Option Int) (t : Int) (c : Str) : Prop := hears ways last t c ∧ may rest last t c
noncomputable def stepAt (ways : List Way) (rest t : Int) (last : Str → Option Int) : Str → Option Int := fun c => if callsAt ways rest last t c then some t else last c
/-- n beats behind beat t -/
noncomputable def adv (ways : List Way) (rest : Int) : Int → Nat → (Str → Option Int) → Str → Option Int
  | _, 0, last => last
  | t, n + 1, last => adv ways rest (t + 1) n (stepAt ways rest (t + 1) last)
/-- what a heath's ways are -/
structure WOk (rest : Int) (ways : List Way) : Prop where
  wnodup : (ways.map (·.1)).Nodup
  wok : ∀ q ∈ ways, q.2.1 ≠ q.2.2.1 ∧ 1 ≤ q.2.2.2 ∧ 2 * q.2.2.2 + 1 ≤ rest
theorem WOk.sends {rest : Int} {ways : List Way} (h : WOk rest ways) {x y w : Str} {β : Int} (s : sends ways x y w β) : x ≠ y ∧ 1 ≤ β ∧ 2 * β + 1 ≤ rest := by
  obtain ⟨q, h1, h2, h3, h4⟩ := s
  have := h.wok q h1
  rcases h4 with ⟨rfl, rfl⟩ | ⟨rfl, rfl⟩
  · exact ⟨this.1, by omega, by omega⟩
  · exact ⟨this.1.symm, by omega, by omega⟩
/-- a way's name tells its beats, and each end the other -/
theorem WOk.one {rest : Int} {ways : List Way} (h : WOk rest ways) {x y x' w : Str} {β β' : Int} (s : DL.sends ways x y w β) (s' : DL.sends ways x' y w β') : x = x' ∧ β = β' := by
  obtain ⟨q, h1, h2, h3, h4⟩ := s
  obtain ⟨p, g1, g2, g3, g4⟩ := s'
  have e : q = p := by
    have hn := h.wnodup
    rw [List.Nodup, List.pairwise_map] at hn
    by_cases z : q = p
    · exact z
    · exfalso
      have : ∀ a ∈ ways, ∀ b ∈ ways, a.1 = b.1 → a = b := by
        intro a ha b hb hab
        obtain ⟨i, hi, rfl⟩ := List.getElem_of_mem ha
        obtain ⟨j, hj, rfl⟩ := List.getElem_of_mem hb
        have hp := List.pairwise_iff_getElem.mp hn
        rcases Nat.lt_trichotomy i j with l | l | l
        · exact absurd hab (hp i j hi hj l)
        · subst l; rfl
        · exact absurd hab.symm (hp j i hj hi l)
      exact z (this q h1 p g1 (h2.trans g2.symm))
  subst e
  have ne := (h.wok q h1).1
  refine ⟨?_, h3.symm.trans g3⟩
  rcases h4 with ⟨a, b⟩ | ⟨a, b⟩ <;> rcases g4 with ⟨c, d⟩ | ⟨c, d⟩
  · exact a.symm.trans c
  · exact absurd (d.trans b.symm) ne
  · exact absurd (b.trans d.symm) ne
  · exact a.symm.trans c
def stepsIn (ways : List Way) (rest b : Int) (last : Str → Option Int) : Prop := ∀ x y w β, sends ways x y w β → inStep b rest β (last x) (last y)
def lasts (b : Int) (last : Str → Option Int) : Prop := ∀ c l, last c = some l → 0 ≤ l ∧ l ≤ b
theorem may_fr {rest b : Int} {last : Str → Option Int} {c : Str} : may rest last (b + 1) c ↔ frB b rest (last c) ≤ b + 1 := by
  unfold may frB
  cases last c with
  | none => simp; omega
  | some l => simp; omega
theorem lasts_step {ways : List Way} {rest b : Int} {last : Str → Option Int} (hb : 0 ≤ b) (h : lasts b last) : lasts (b + 1) (stepAt ways rest (b + 1) last) := fun c l e => by
  unfold stepAt at e
  split at e
  · cases e
    omega
  · have := h c l e
    omega
theorem stepsIn_step {ways : List Way} {rest b : Int} {last : Str → Option Int} (hw : WOk rest ways) (hl : lasts b last) (h : stepsIn ways rest b last) : stepsIn ways rest (b + 1) (stepAt ways rest (b + 1) last) := fun x y w β s => by
  obtain ⟨_, h1, h2⟩ := hw.sends s
  have q := step_way (b := b) (r := rest) (β := β) (la := last x) (lb := last y) h1 h2 (fun l e => (hl x l e).2) (fun l e => (hl y l e).2) (h x y w β s) (decide (callsAt ways rest last (b + 1) x)) (decide (callsAt ways rest last (b + 1) y))
    (fun e => may_fr.mp (of_decide_eq_true e).2) (fun e => may_fr.mp (of_decide_eq_true e).2)
    (fun l e e2 e3 => decide_eq_true ⟨⟨y, w, β, sends_comm s, by rw [e]; congr 1; omega⟩, may_fr.mpr e3⟩)
    (fun l e e2 e3 => decide_eq_true ⟨⟨x, w, β, s, by rw [e]; congr 1; omega⟩, may_fr.mpr e3⟩)
  simpa only [stepAt, decide_eq_true_eq] using q
theorem adv_succ {ways : List Way} {rest : Int} : ∀ (n : Nat) (t : Int) (last : Str → Option Int), adv ways rest t (n + 1) last = stepAt ways rest (t + n + 1) (adv ways rest t n last)
  | 0, t, last => by simp [adv]
  | n + 1, t, last => by
    show adv ways rest (t + 1) (n + 1) (stepAt ways rest (t + 1) last) = _
    rw [adv_succ n (t + 1)]
    show stepAt ways rest (t + 1 + n + 1) _ = stepAt ways rest (t + (n + 1 : Nat) + 1) (adv ways rest (t + 1) n _)
    congr 1
    omega
theorem adv_ok {ways : List Way} {rest : Int} (hw : WOk rest ways) {b : Int} {last : Str → Option Int} (hb : 0 ≤ b) (hl : lasts b last) (h : stepsIn ways rest b last) : ∀ n : Nat, lasts (b + n) (adv ways rest b n last) ∧ stepsIn ways rest (b + n) (adv ways rest b n last)
  | 0 => by simpa [adv] using ⟨hl, h⟩
  | n + 1 => by
    obtain ⟨h1, h2⟩ := adv_ok hw hb hl h n
    rw [adv_succ]
    have e : b + (n + 1 : Nat) = b + n + 1 := by omega
    rw [e]
    exact ⟨lasts_step (by omega) h1, stepsIn_step hw h1 h2⟩
theorem adv_lasts {ways : List Way} {rest : Int} {b : Int} {last : Str → Option Int} (hb : 0 ≤ b) (hl : lasts b last) : ∀ n : Nat, lasts (b + n) (adv ways rest b n last)
  | 0 => by simpa [adv] using hl
  | n + 1 => by
    have h1 := adv_lasts hb hl n (ways := ways) (rest := rest)
    rw [adv_succ]
    have e : b + (n + 1 : Nat) = b + n + 1 := by omega
    rw [e]
    exact lasts_step (by omega) h1
theorem adv_add {ways : List Way} {rest : Int} : ∀ (n m : Nat) (t : Int) (last : Str → Option Int), adv ways rest t (n + m) last = adv ways rest (t + n) m (adv ways rest t n last)
  | 0, m, t, last => by simp [adv]
  | n + 1, m, t, last => by
    rw [show n + 1 + m = (n + m) + 1 by omega]
    show adv ways rest (t + 1) (n + m) _ = _
    rw [adv_add n m (t + 1)]
    show _ = adv ways rest (t + (n + 1 : Nat)) m (adv ways rest (t + 1) n _)
    congr 1
    omega
/-- nobody calls: nothing changes -/
theorem step_quiet {ways : List Way} {rest t : Int} {last : Str → Option Int} (h : ∀ c, ¬ callsAt ways rest last t c) : stepAt ways rest t last = last := by
  funext c
  unfold stepAt
  rw [if_neg (h c)]
theorem adv_quiet {ways : List Way} {rest : Int} : ∀ (n : Nat) (t : Int) (last : Str → Option Int), (∀ c (k : Int), t < k → k ≤ t + n → ¬ callsAt ways rest last k c) → adv ways rest t n last = last
  | 0, _, _, _ => rfl
  | n + 1, t, last, h => by
    show adv ways rest (t + 1) n (stepAt ways rest (t + 1) last) = last
    rw [step_quiet fun c => h c (t + 1) (by omega) (by omega)]
    exact adv_quiet n (t + 1) last fun c k h1 h2 => h c k (by omega) (by omega)
/-! ### a heath with what's in the air -/
def nmOk (s : Str) : Prop := s.length ≤ 20 ∧ ∀ c ∈ s.cps.toList, c < 128
structure Hm where
  rest : Int
  names : List Str
  ways : List Way
  beat : Int
  last : Str → Option Int
  air : List ARow
structure Hm.Ok (h : Hm) : Prop where
  rest3 : 3 ≤ h.rest
  rest24 : h.rest ≤ 24
  len1 : 1 ≤ h.names.length
  len8 : h.names.length ≤ 8
  nodup : h.names.Nodup
  rise : PyProof.Rows.sortedS h.names = true
  nok : ∀ s ∈ h.names, nmOk s
  wlen : h.ways.length ≤ 10
  w : WOk h.rest h.ways
  wat : ∀ q ∈ h.ways, q.2.1 ∈ h.names ∧ q.2.2.1 ∈ h.names ∧ q.2.2.2 ≤ 6 ∧ nmOk q.1
  beat0 : 0 ≤ h.beat
  lo : lasts h.beat h.last
  a1 : ∀ x y w β l, sends h.ways x y w β → h.last x = some l → h.beat < l + β → (l + β, y, w) ∈ h.air ∨ ∃ m, h.last y = some m ∧ l - β ≤ m
  a2 : ∀ r ∈ h.air, h.beat < r.1 ∧ ∃ x β, sends h.ways x r.2.1 r.2.2 β ∧ h.last x = some (r.1 - β)
  nd : h.air.Nodup
/-- a call that comes at t, between, finds nobody that may call but those in the air -/
theorem Hm.Ok.heard {h : Hm} (o : h.Ok) {t : Int} {c : Str} (ht : h.beat < t) (hc : callsAt h.ways h.rest h.last t c) : ∃ w, (t, c, w) ∈ h.air := by
  obtain ⟨⟨x, w, β, s, hx⟩, hm⟩ := hc
  have hs := o.w.sends s
  rcases o.a1 x c w β (t - β) s hx (by omega) with q | ⟨m, h1, h2⟩
  · exact ⟨w, by rw [show t - β + β = t by omega] at q; exact q⟩
  · have := hm m h1
    omega
theorem Hm.Ok.air_hears {h : Hm} (o : h.Ok) {r : ARow} (hr : r ∈ h.air) : hears h.ways h.last r.1 r.2.1 := by
  obtain ⟨_, x, β, s, hx⟩ := o.a2 r hr
  exact ⟨x, r.2.2, β, s, hx⟩
theorem nodup_le {α : Type} [DecidableEq α] : ∀ (l D : List α), l.Nodup → (∀ x ∈ l, x ∈ D) → l.length ≤ D.length
  | [], _, _, _ => Nat.zero_le _
  | a :: l, D, hn, hs => by
    obtain ⟨h1, h2⟩ := List.nodup_cons.mp hn
    have ha := hs a List.mem_cons_self
    have q := nodup_le l (D.erase a) h2 fun x hx => (List.mem_erase_of_ne (fun e : x = a => h1 (by rw [← e]; exact hx))).mpr (hs x (List.mem_cons_of_mem _ hx))
    rw [List.length_erase_of_mem ha] at q
    have : 0 < D.length := List.length_pos_of_mem ha
    rw [List.length_cons]
    omega
theorem Hm.Ok.air20 {h : Hm} (o : h.Ok) : h.air.length ≤ 20 := by
  have inj : ∀ r ∈ h.air, ∀ r' ∈ h.air, r.2 = r'.2 → r = r' := fun r hr r' hr' e => by
    obtain ⟨_, x, β, s, hx⟩ := o.a2 r hr
    obtain ⟨_, x', β', s', hx'⟩ := o.a2 r' hr'
    rw [← e] at s'
    obtain ⟨rfl, rfl⟩ := o.w.one s s'
    rw [hx] at hx'
    have : r.1 = r'.1 := by have := Option.some.inj hx'; omega
    exact Prod.ext this e
  have nd2 : (h.air.map (·.2)).Nodup := by
    rw [List.Nodup, List.pairwise_map]
    exact List.Pairwise.imp_of_mem (fun {a b} ha hb hne e => hne (inj a ha b hb e)) o.nd
  have q := nodup_le (h.air.map (·.2)) (h.ways.flatMap fun q => [(q.2.1, q.1), (q.2.2.1, q.1)]) nd2 fun x hx => by
    obtain ⟨r, hr, rfl⟩ := List.mem_map.mp hx
    obtain ⟨_, x, β, ⟨p, h1, h2, h3, h4⟩, _⟩ := o.a2 r hr
    refine List.mem_flatMap.mpr ⟨p, h1, ?_⟩
    rw [h2]
    rcases h4 with ⟨_, e⟩ | ⟨_, e⟩
    · rw [e]; simp
    · rw [e]; simp
  have hl : (h.ways.flatMap fun q => [(q.2.1, q.1), (q.2.2.1, q.1)]).length = h.ways.length * 2 := by
    generalize h.ways = ws
    induction ws with
    | nil => rfl
    | cons a ws ih => rw [List.flatMap_cons, List.length_append, ih]; simp; omega
  rw [List.length_map, hl] at q
  have := o.wlen
  omega
theorem Hm.Ok.air_nm {h : Hm} (o : h.Ok) {r : ARow} (hr : r ∈ h.air) : r.2.1 ∈ h.names ∧ nmOk r.2.1 ∧ nmOk r.2.2 := by
  obtain ⟨_, x, β, ⟨p, h1, h2, h3, h4⟩, _⟩ := o.a2 r hr
  have hw := o.wat p h1
  have : r.2.1 ∈ h.names := by
    rcases h4 with ⟨_, e⟩ | ⟨_, e⟩
    · rw [← e]; exact hw.2.1
    · rw [← e]; exact hw.1
  exact ⟨this, o.nok _ this, by rw [← h2]; exact hw.2.2.2⟩
/-! ### what a hand, and time, do to a heath -/
structure CalledTo (h : Hm) (c : Str) (h' : Hm) : Prop where
  rest : h'.rest = h.rest
  names : h'.names = h.names
  ways : h'.ways = h.ways
  beat : h'.beat = h.beat
  last : h'.last = fun s => if s = c then some h.beat else h.last s
  air : ∀ r, r ∈ h'.air ↔ r ∈ h.air ∨ ∃ y w β, sends h.ways c y w β ∧ r = (h.beat + β, y, w)
  nd : h'.air.Nodup
/-- it may call now -/
def Hm.free (h : Hm) (c : Str) : Prop := ∀ l, h.last c = some l → l + h.rest ≤ h.beat
theorem Hm.free_fr {h : Hm} {c : Str} : h.free c ↔ frB h.beat h.rest (h.last c) = h.beat := by
  unfold Hm.free frB
  cases h.last c with
  | none => simp
  | some l => simp; omega
theorem CalledTo.ok {h h' : Hm} {c : Str} (t : CalledTo h c h') (o : h.Ok) (hf : h.free c) : h'.Ok := by
  obtain ⟨r', n', w', b', l', a'⟩ := h'
  obtain ⟨e1, e2, e3, e4, e5, e6, e7⟩ := t
  simp only at e1 e2 e3 e4 e5 e6 e7
  subst e1 e2 e3 e4 e5
  refine ⟨o.rest3, o.rest24, o.len1, o.len8, o.nodup, o.rise, o.nok, o.wlen, o.w, o.wat, o.beat0, fun s l e => ?_, fun x y w β l s e hb => ?_, fun r hr => ?_, e7⟩
  · simp only at e
    split at e
    · cases e
      exact ⟨o.beat0, Int.le_refl _⟩
    · exact o.lo s l e
  · simp only at e ⊢
    rw [e6]
    split at e
    · rename_i ex
      subst ex
      cases e
      exact .inl (.inr ⟨y, w, β, s, rfl⟩)
    · rcases o.a1 x y w β l s e hb with q | ⟨m, h1, h2⟩
      · exact .inl (.inl q)
      · right
        split
        · have := (o.lo x l e).2
          have := (o.w.sends s).2.1
          exact ⟨_, rfl, by omega⟩
        · exact ⟨m, h1, h2⟩
  · rcases (e6 r).mp hr with q | ⟨y, w, β, s, rfl⟩
    · obtain ⟨h1, x, β, s, hx⟩ := o.a2 r q
      refine ⟨h1, x, β, s, ?_⟩
      have hs := o.w.sends s
      have ne : x ≠ c := fun e => by
        subst e
        have := hf _ hx
        omega
      simp only
      rw [if_neg ne]
      exact hx
    · have hs := o.w.sends s
      refine ⟨by simp only; omega, c, β, s, ?_⟩
      simp only [if_true]
      congr 1
      omega
theorem CalledTo.steps {h h' : Hm} {c : Str} (t : CalledTo h c h') (o : h.Ok) (hf : h.free c) (hs : stepsIn h.ways h.rest h.beat h.last) : stepsIn h'.ways h'.rest h'.beat h'.last := fun x y w β s => by
  rw [t.ways] at s
  rw [t.rest, t.beat, t.last]
  obtain ⟨hne, h1, h2⟩ := o.w.sends s
  have q := hs x y w β s
  have fr := Hm.free_fr.mp hf
  by_cases ex : x = c
  · subst ex
    have ey : ¬ y = x := fun e => hne e.symm
    simp only [if_true, if_neg ey]
    exact call_way h1 h2 (fun l e => (o.lo x l e).2) (fun l e => (o.lo y l e).2) q (by omega)
  · by_cases ey : y = c
    · subst ey
      simp only [if_true, if_neg ex]
      exact inStep_comm (call_way h1 h2 (fun l e => (o.lo y l e).2) (fun l e => (o.lo x l e).2) (inStep_comm q) (by omega))
    · simp only [if_neg ex, if_neg ey]
      exact q
/-- time goes by -/
structure GoneTo (h : Hm) (n : Nat) (h' : Hm) : Prop where
  rest : h'.rest = h.rest
  names : h'.names = h.names
  ways : h'.ways = h.ways
  beat : h'.beat = h.beat + n
  last : h'.last = adv h.ways h.rest h.beat n h.last
theorem GoneTo.steps {h h' : Hm} {n : Nat} (t : GoneTo h n h') (o : h.Ok) (hs : stepsIn h.ways h.rest h.beat h.last) : stepsIn h'.ways h'.rest h'.beat h'.last := by
  rw [t.rest, t.ways, t.beat, t.last]
  exact (adv_ok o.w o.beat0 o.lo hs n).2
theorem GoneTo.refl (h : Hm) : GoneTo h 0 h := ⟨rfl, rfl, rfl, by simp, rfl⟩
theorem GoneTo.trans {h h1 h2 : Hm} {n m : Nat} (t : GoneTo h n h1) (t2 : GoneTo h1 m h2) : GoneTo h (n + m) h2 :=
  ⟨t2.rest.trans t.rest, t2.names.trans t.names, t2.ways.trans t.ways, by rw [t2.beat, t.beat]; omega, by rw [t2.last, t.ways, t.rest, t.beat, t.last, adv_add]⟩
/-- to the beat T, up to which nothing is in the air -/
theorem Hm.Ok.quiet {h : Hm} (o : h.Ok) {n : Nat} (hT : ∀ r ∈ h.air, h.beat + n < r.1) : adv h.ways h.rest h.beat n h.last = h.last := adv_quiet n h.beat h.last fun c k h1 h2 hc => by
  obtain ⟨w, hw⟩ := o.heard h1 hc
  have := hT _ hw
  simp only at this
  omega
theorem Hm.Ok.later {h : Hm} (o : h.Ok) {n : Nat} (hT : ∀ r ∈ h.air, h.beat + n < r.1) : GoneTo h n { h with beat := h.beat + n } ∧ Hm.Ok { h with beat := h.beat + n } :=
  ⟨⟨rfl, rfl, rfl, rfl, (o.quiet hT).symm⟩, ⟨o.rest3, o.rest24, o.len1, o.len8, o.nodup, o.rise, o.nok, o.wlen, o.w, o.wat, by have := o.beat0; simp only; omega, fun c l e => ⟨(o.lo c l e).1, by have := (o.lo c l e).2; simp only; omega⟩,
    fun x y w β l s e hb => o.a1 x y w β l s e (by simp only at hb; omega), fun r hr => ⟨hT r hr, (o.a2 r hr).2⟩, o.nd⟩⟩
/-- the beat T itself: what's heard now is out of the air -/
def Hm.now (h : Hm) (T : Int) : Hm := { h with beat := T, air := h.air.filter fun r => decide (T < r.1) }
theorem Hm.Ok.now {h : Hm} (o : h.Ok) {T : Int} (hb : h.beat ≤ T) : (h.now T).Ok :=
  ⟨o.rest3, o.rest24, o.len1, o.len8, o.nodup, o.rise, o.nok, o.wlen, o.w, o.wat, by have := o.beat0; show 0 ≤ T; omega, fun c l e => ⟨(o.lo c l e).1, by have := (o.lo c l e).2; show l ≤ T; omega⟩,
    fun x y w β l s e hl => by
      have hl : T < l + β := hl
      rcases o.a1 x y w β l s e (by omega) with q | q
      · exact .inl (List.mem_filter.mpr ⟨q, decide_eq_true hl⟩)
      · exact .inr q,
    fun r hr => ⟨of_decide_eq_true (List.mem_filter.mp hr).2, (o.a2 r (List.mem_filter.mp hr).1).2⟩, o.nd.sublist List.filter_sublist⟩
/-- all that are heard at T call, if they may -/
theorem calls_now {h : Hm} (o : h.Ok) {T : Int} (hb : h.beat < T) (c : Str) : callsAt h.ways h.rest h.last T c ↔ (∃ w, (T, c, w) ∈ h.air) ∧ ∀ l, h.last c = some l → l + h.rest ≤ T :=
  ⟨fun q => ⟨o.heard hb q, q.2⟩, fun ⟨⟨w, hw⟩, q⟩ => ⟨o.air_hears hw, q⟩⟩
theorem gone_now {h h' : Hm} (o : h.Ok) {n : Nat} (hn : 0 < n) (hT : ∀ r ∈ h.air, h.beat + n ≤ r.1) (e1 : h'.rest = h.rest) (e2 : h'.names = h.names) (e3 : h'.ways = h.ways) (e4 : h'.beat = h.beat + n)
    (e5 : ∀ c, h'.last c = if (∃ w, (h.beat + n, c, w) ∈ h.air) ∧ (∀ l, h.last c = some l → l + h.rest ≤ h.beat + n) then some (h.beat + n) else h.last c) : GoneTo h n h' := by
  obtain ⟨m, rfl⟩ : ∃ m, n = m + 1 := ⟨n - 1, by omega⟩
  refine ⟨e1, e2, e3, e4, ?_⟩
  have q := o.quiet (n := m) fun r hr => by have := hT r hr; omega
  rw [adv_succ, q]
  funext c
  rw [e5 c]
  unfold stepAt
  have e : h.beat + (m : Int) + 1 = h.beat + ((m + 1 : Nat) : Int) := by omega
  rw [e]
  simp only [calls_now o (show h.beat < h.beat + ((m + 1 : Nat) : Int) by omega)]
/-- a way is gone -/
def Hm.cut (h : Hm) (w : Str) : Hm := { h with ways := h.ways.filter (fun q => decide (q.1 ≠ w)), air := h.air.filter fun r => decide (r.2.2 ≠ w) }
theorem cut_sends {h : Hm} {w x y w' : Str} {β : Int} : sends (h.cut w).ways x y w' β ↔ sends h.ways x y w' β ∧ w' ≠ w := by
  constructor
  · rintro ⟨q, h1, h2, h3⟩
    obtain ⟨h4, h5⟩ := List.mem_filter.mp h1
    exact ⟨⟨q, h4, h2, h3⟩, by rw [← h2]; exact of_decide_eq_true h5⟩
  · rintro ⟨⟨q, h1, h2, h3⟩, ne⟩
    exact ⟨q, List.mem_filter.mpr ⟨h1, decide_eq_true (by rw [h2]; exact ne)⟩, h2, h3⟩
theorem Hm.Ok.cut {h : Hm} (o : h.Ok) (w : Str) : (h.cut w).Ok :=
  ⟨o.rest3, o.rest24, o.len1, o.len8, o.nodup, o.rise, o.nok, Nat.le_trans (List.length_filter_le _ _) o.wlen, ⟨o.w.wnodup.sublist (List.filter_sublist.map _), fun q hq => o.w.wok q (List.mem_filter.mp hq).1⟩, fun q hq => o.wat q (List.mem_filter.mp hq).1, o.beat0, o.lo,
    fun x y w' β l s e hb => by
      obtain ⟨s1, s2⟩ := cut_sends.mp s
      rcases o.a1 x y w' β l s1 e hb with q | q
      · exact .inl (List.mem_filter.mpr ⟨q, decide_eq_true s2⟩)
      · exact .inr q,
    fun r hr => by
      obtain ⟨h1, h2⟩ := List.mem_filter.mp hr
      obtain ⟨h3, x, β, s, e⟩ := o.a2 r h1
      exact ⟨h3, x, β, cut_sends.mpr ⟨s, of_decide_eq_true h2⟩, e⟩, o.nd.sublist List.filter_sublist⟩
theorem Hm.cut_steps {h : Hm} {w : Str} (hs : stepsIn h.ways h.rest h.beat h.last) : stepsIn (h.cut w).ways (h.cut w).rest (h.cut w).beat (h.cut w).last := fun x y w' β s => hs x y w' β (cut_sends.mp s).1
/-- a way more may lie -/
def mayLie (h : Hm) (one other : Str) (β : Int) : Prop := ¬ owes h.beat β (h.last other) (h.last one) ∧ ¬ owes h.beat β (h.last one) (h.last other) ∧ 2 * β + 1 ≤ h.rest ∧
  frB h.beat h.rest (h.last one) ≤ frB h.beat h.rest (h.last other) + β ∧ frB h.beat h.rest (h.last other) ≤ frB h.beat h.rest (h.last one) + β
def Hm.lay (h : Hm) (q : Way) : Hm := { h with ways := h.ways ++ [q] }
structure LayOk (h : Hm) (q : Way) : Prop where
  new : q.1 ∉ h.ways.map (·.1)
  one : q.2.1 ∈ h.names
  other : q.2.2.1 ∈ h.names
  ne : q.2.1 ≠ q.2.2.1
  b1 : 1 ≤ q.2.2.2
  b6 : q.2.2.2 ≤ 6
  len : h.ways.length < 10
  nm : nmOk q.1
  may : mayLie h q.2.1 q.2.2.1 q.2.2.2
theorem lay_sends {h : Hm} {q : Way} {x y w : Str} {β : Int} : sends (h.lay q).ways x y w β ↔ sends h.ways x y w β ∨ sends [q] x y w β := by
  constructor
  · rintro ⟨p, h1, h2⟩
    rcases List.mem_append.mp h1 with z | z
    · exact .inl ⟨p, z, h2⟩
    · exact .inr ⟨p, z, h2⟩
  · rintro (⟨p, h1, h2⟩ | ⟨p, h1, h2⟩)
    · exact ⟨p, List.mem_append.mpr (.inl h1), h2⟩
    · exact ⟨p, List.mem_append.mpr (.inr h1), h2⟩
theorem not_owes {b β : Int} {la lb : Option Int} (h : ¬ owes b β la lb) {l : Int} (e : lb = some l) (hb : b < l + β) : ∃ m, la = some m ∧ l - β ≤ m := by
  subst e
  cases la with
  | none => exact absurd hb h
  | some m => exact ⟨m, rfl, by simp only [owes] at h; omega⟩
theorem Hm.Ok.lay {h : Hm} (o : h.Ok) {q : Way} (k : LayOk h q) : (h.lay q).Ok := by
  refine ⟨o.rest3, o.rest24, o.len1, o.len8, o.nodup, o.rise, o.nok, ?_, ⟨?_, fun p hp => ?_⟩, fun p hp => ?_, o.beat0, o.lo, fun x y w β l s e hb => ?_, fun r hr => ?_, o.nd⟩
  · show (h.ways ++ [q]).length ≤ 10
    have := k.len
    rw [List.length_append, List.length_singleton]
    omega
  · show ((h.ways ++ [q]).map (·.1)).Nodup
    rw [List.map_append]
    refine List.nodup_append.mpr ⟨o.w.wnodup, by simp, fun a ha b hb e => ?_⟩
    rw [List.map_singleton, List.mem_singleton] at hb
    exact k.new (by rw [← hb, ← e]; exact ha)
  · rcases List.mem_append.mp hp with z | z
    · exact o.w.wok p z
    · rw [List.mem_singleton.mp z]
      exact ⟨k.ne, k.b1, k.may.2.2.1⟩
  · rcases List.mem_append.mp hp with z | z
    · exact o.wat p z
    · rw [List.mem_singleton.mp z]
      exact ⟨k.one, k.other, k.b6, k.nm⟩
  · rcases lay_sends.mp s with s | ⟨p, h1, h2, h3, h4⟩
    · exact o.a1 x y w β l s e hb
    · right
      rw [List.mem_singleton.mp h1] at h2 h3 h4
      subst h2 h3
      rcases h4 with ⟨rfl, rfl⟩ | ⟨rfl, rfl⟩
      · exact not_owes k.may.1 e hb
      · exact not_owes k.may.2.1 e hb
  · obtain ⟨h3, x, β, s, e⟩ := o.a2 r hr
    exact ⟨h3, x, β, lay_sends.mpr (.inl s), e⟩
theorem Hm.lay_steps {h : Hm} {q : Way} (k : LayOk h q) (hs : stepsIn h.ways h.rest h.beat h.last) : stepsIn (h.lay q).ways (h.lay q).rest (h.lay q).beat (h.lay q).last := fun x y w β s => by
  rcases lay_sends.mp s with s | ⟨p, h1, h2, h3, h4⟩
  · exact hs x y w β s
  · rw [List.mem_singleton.mp h1] at h2 h3 h4
    subst h2 h3
    have key : inStep h.beat h.rest q.2.2.2 (h.last q.2.1) (h.last q.2.2.1) := ⟨fun z => absurd z k.may.2.1, fun z => absurd z k.may.1, fun _ _ => k.may.2.2.2⟩
    rcases h4 with ⟨rfl, rfl⟩ | ⟨rfl, rfl⟩
    · exact key
    · exact inStep_comm key
/-- what deeds come to -/
inductive Reach : Hm → Hm → Prop
  | refl (h : Hm) : Reach h h
  | call {h h1 h2 : Hm} {c : Str} : Reach h h1 → c ∈ h1.names → h1.free c → CalledTo h1 c h2 → Reach h h2
  | go {h h1 h2 : Hm} {n : Nat} : Reach h h1 → GoneTo h1 n h2 → h2.Ok → Reach h h2
  | cut {h h1 : Hm} (w : Str) : Reach h h1 → Reach h (h1.cut w)
  | lay {h h1 : Hm} {q : Way} : Reach h h1 → LayOk h1 q → Reach h (h1.lay q)
theorem Reach.trans {a b c : Hm} (h1 : Reach a b) (h2 : Reach b c) : Reach a c := by
  induction h2 with
  | refl => exact h1
  | call _ x y z ih => exact .call ih x y z
  | go _ x y ih => exact .go ih x y
  | cut w _ ih => exact .cut w ih
  | lay _ x ih => exact .lay ih x
theorem Reach.ok {a b : Hm} (r : Reach a b) (o : a.Ok) : b.Ok := by
  induction r with
  | refl => exact o
  | call _ x y z ih => exact z.ok ih y
  | go _ x y _ => exact y
  | cut w _ ih => exact ih.cut w
  | lay _ x ih => exact ih.lay x
theorem Reach.steps {a b : Hm} (r : Reach a b) (o : a.Ok) (hs : stepsIn a.ways a.rest a.beat a.last) : stepsIn b.ways b.rest b.beat b.last := by
  induction r with
  | refl => exact hs
  | call q x y z ih => exact z.steps (q.ok o) y ih
  | go q x y ih => exact x.steps (q.ok o) ih
  | cut w _ ih => exact Hm.cut_steps ih
  | lay _ x ih => exact Hm.lay_steps x ih
theorem Reach.names {a b : Hm} (r : Reach a b) : b.names = a.names ∧ b.rest = a.rest := by
  induction r with
  | refl => exact ⟨rfl, rfl⟩
  | call _ x y z ih => exact ⟨z.names.trans ih.1, z.rest.trans ih.2⟩
  | go _ x _ ih => exact ⟨x.names.trans ih.1, x.rest.trans ih.2⟩
  | cut w _ ih => exact ih
  | lay _ x ih => exact ih
end DL

set_option maxHeartbeats 4000000
/-! who calls, beat by beat -/
namespace DL
open PySem PyProof.Rows
open Classical
/-- who calls at t, in the order of the names -/
noncomputable def callers (qs : List Way) (r : Int) (last : Str → Option Int) (t : Int) (ns : List Str) : List Str := ns.filter fun c => decide (callsAt qs r last t c)
theorem callers_mem {qs : List Way} {r t : Int} {last : Str → Option Int} {ns : List Str} {c : Str} : c ∈ callers qs r last t ns ↔ c ∈ ns ∧ callsAt qs r last t c := by
  unfold callers
  rw [List.mem_filter, decide_eq_true_eq]
theorem callers_len {qs : List Way} {r t : Int} {ns : List Str} {last : Str → Option Int} : (callers qs r last t ns).length ≤ ns.length := List.length_filter_le _ _
/-- the calls of n beats behind t -/
noncomputable def runC (qs : List Way) (r : Int) (ns : List Str) : Int → Nat → (Str → Option Int) → List (Int × Str)
  | _, 0, _ => []
  | t, n + 1, last => (callers qs r last (t + 1) ns).map (fun c => (t + 1, c)) ++ runC qs r ns (t + 1) n (stepAt qs r (t + 1) last)
theorem runC_succ {qs : List Way} {r : Int} {ns : List Str} : ∀ (n : Nat) (t : Int) (last : Str → Option Int), runC qs r ns t (n + 1) last = runC qs r ns t n last ++ (callers qs r (adv qs r t n last) (t + n + 1) ns).map fun c => (t + n + 1, c)
  | 0, t, last => by simp [runC, adv]
  | n + 1, t, last => by
    rw [runC, runC_succ n (t + 1), runC, List.append_assoc]
    have e : t + 1 + (n : Int) + 1 = t + ((n + 1 : Nat) : Int) + 1 := by omega
    rw [e]
    rfl
theorem runC_add {qs : List Way} {r : Int} {ns : List Str} : ∀ (n m : Nat) (t : Int) (last : Str → Option Int), runC qs r ns t (n + m) last = runC qs r ns t n last ++ runC qs r ns (t + n) m (adv qs r t n last)
  | 0, m, t, last => by simp [runC, adv]
  | n + 1, m, t, last => by
    rw [show n + 1 + m = (n + m) + 1 by omega, runC, runC, runC_add n m (t + 1), List.append_assoc]
    have e : t + 1 + (n : Int) = t + ((n + 1 : Nat) : Int) := by omega
    rw [e]
    rfl
theorem runC_len {qs : List Way} {r : Int} {ns : List Str} : ∀ (n : Nat) (t : Int) (last : Str → Option Int), (runC qs r ns t n last).length ≤ ns.length * n
  | 0, t, last => by simp [runC]
  | n + 1, t, last => by
    have h1 := callers_len (qs := qs) (r := r) (t := t + 1) (ns := ns) (last := last)
    have h2 := runC_len (qs := qs) (r := r) (ns := ns) n (t + 1) (stepAt qs r (t + 1) last)
    rw [runC, List.length_append, List.length_map, Nat.mul_succ]
    omega
/-- nobody calls ahead of the end -/
theorem runC_quiet {qs : List Way} {r : Int} {ns : List Str} : ∀ (n : Nat) (t : Int) (last : Str → Option Int), (∀ c (k : Int), t < k → k ≤ t + n → ¬ callsAt qs r last k c) → runC qs r ns t n last = []
  | 0, _, _, _ => rfl
  | n + 1, t, last, h => by
    have q := step_quiet (ways := qs) (rest := r) (t := t + 1) (last := last) fun c => h c (t + 1) (by omega) (by omega)
    have e : callers qs r last (t + 1) ns = [] := List.filter_eq_nil_iff.mpr fun c _ z => h c (t + 1) (by omega) (by omega) (of_decide_eq_true z)
    rw [runC, q, e, List.map_nil, List.nil_append]
    exact runC_quiet n (t + 1) last fun c k h1 h2 => h c k (by omega) (by omega)
/-- nobody but at the very end -/
theorem runC_end {qs : List Way} {r : Int} {ns : List Str} {n : Nat} {t : Int} {last : Str → Option Int} (hn : 0 < n) (h : ∀ c (k : Int), t < k → k < t + n → ¬ callsAt qs r last k c) : runC qs r ns t n last = (callers qs r last (t + n) ns).map fun c => (t + n, c) := by
  obtain ⟨m, rfl⟩ : ∃ m, n = m + 1 := ⟨n - 1, by omega⟩
  have q : ∀ c (k : Int), t < k → k ≤ t + m → ¬ callsAt qs r last k c := fun c k h1 h2 => h c k h1 (by omega)
  rw [runC_succ, runC_quiet m t last q, adv_quiet m t last q, List.nil_append]
  have e : t + (m : Int) + 1 = t + ((m + 1 : Nat) : Int) := by omega
  rw [e]
/-! texts in order -/
def strLe (a b : Str) : Prop := a.cps.toList ≤ b.cps.toList
theorem strLe_trans {a b c : Str} (h : strLe a b) (g : strLe b c) : strLe a c := List.le_trans h g
theorem strLe_anti {a b : Str} (h : strLe a b) (g : strLe b a) : a = b := by
  have e : a.cps.toList = b.cps.toList := List.le_antisymm h g
  obtain ⟨x⟩ := a
  obtain ⟨y⟩ := b
  congr 1
  exact Array.toList_inj.mp e
theorem strLe_total (a b : Str) : strLe a b ∨ strLe b a := List.le_total _ _
theorem risingS_le : ∀ {l : List Str} {p : Str}, risingS p l = true → (p :: l).Pairwise strLe
  | [], p, _ => List.pairwise_singleton _ _
  | x :: r, p, h => by
    simp only [risingS, Bool.and_eq_true, Bool.not_eq_true'] at h
    have q := risingS_le h.2
    have px : strLe p x := by
      have := h.1
      rw [ltCps_eq] at this
      exact List.not_lt.mp (of_decide_eq_false this)
    refine List.pairwise_cons.mpr ⟨fun y hy => ?_, q⟩
    rcases List.mem_cons.mp hy with e | hy
    · rw [e]; exact px
    · exact strLe_trans px ((List.pairwise_cons.mp q).1 y hy)
theorem sortedS_le {l : List Str} (h : sortedS l = true) : l.Pairwise strLe := by
  cases l with
  | nil => exact List.Pairwise.nil
  | cons x r => exact risingS_le h
theorem le_sortedS {l : List Str} (h : l.Pairwise strLe) : sortedS l = true := sortedS_of_pairwise l (h.imp fun {a b} q => by
  rw [ltCps_eq]
  exact decide_eq_false (List.not_lt.mpr q))
/-- a sorted list of unlike texts is told by its members -/
theorem le_same : ∀ {l m : List Str}, l.Pairwise strLe → m.Pairwise strLe → l.Nodup → m.Nodup → (∀ c, c ∈ l ↔ c ∈ m) → l = m
  | [], m, _, _, _, _, h => by
    cases m with
    | nil => rfl
    | cons y m => exact absurd ((h y).mpr List.mem_cons_self) (by simp)
  | x :: l, [], _, _, _, _, h => absurd ((h x).mp List.mem_cons_self) (by simp)
  | x :: l, y :: m, hl, hm, dl, dm, h => by
    obtain ⟨l1, l2⟩ := List.pairwise_cons.mp hl
    obtain ⟨m1, m2⟩ := List.pairwise_cons.mp hm
    obtain ⟨d1, d2⟩ := List.nodup_cons.mp dl
    obtain ⟨e1, e2⟩ := List.nodup_cons.mp dm
    have e : x = y := by
      rcases List.mem_cons.mp ((h x).mp List.mem_cons_self) with z | z
      · exact z
      · rcases List.mem_cons.mp ((h y).mpr List.mem_cons_self) with z2 | z2
        · exact z2.symm
        · exact strLe_anti (l1 y z2) (m1 x z)
    subst e
    congr 1
    refine le_same l2 m2 d2 e2 fun c => ⟨fun hc => ?_, fun hc => ?_⟩
    · rcases List.mem_cons.mp ((h c).mp (List.mem_cons_of_mem _ hc)) with z | z
      · exact absurd hc (by rw [z]; exact d1)
      · exact z
    · rcases List.mem_cons.mp ((h c).mpr (List.mem_cons_of_mem _ hc)) with z | z
      · exact absurd hc (by rw [z]; exact e1)
      · exact z
theorem sorted_same {l m : List Str} (hl : sortedS l = true) (hm : sortedS m = true) (dl : l.Nodup) (dm : m.Nodup) (h : ∀ c, c ∈ l ↔ c ∈ m) : l = m := le_same (sortedS_le hl) (sortedS_le hm) dl dm h
theorem sorted_filter {l : List Str} (hl : sortedS l = true) (p : Str → Bool) : sortedS (l.filter p) = true := le_sortedS ((sortedS_le hl).filter p)
/-! ways in another order -/
section
variable {q1 q2 : List Way} (h : ∀ x y w β, sends q1 x y w β ↔ sends q2 x y w β)
include h
theorem callsAt_cong {r t : Int} {last : Str → Option Int} {c : Str} : callsAt q1 r last t c ↔ callsAt q2 r last t c := by
  unfold callsAt hears
  simp only [h]
theorem stepAt_cong {r t : Int} {last : Str → Option Int} : stepAt q1 r t last = stepAt q2 r t last := by
  funext c
  unfold stepAt
  simp only [callsAt_cong h]
theorem adv_cong {r : Int} : ∀ (n : Nat) (t : Int) (last : Str → Option Int), adv q1 r t n last = adv q2 r t n last
  | 0, _, _ => rfl
  | n + 1, t, last => by
    unfold adv
    rw [stepAt_cong h, adv_cong n]
theorem runC_cong {r : Int} {ns : List Str} : ∀ (n : Nat) (t : Int) (last : Str → Option Int), runC q1 r ns t n last = runC q2 r ns t n last
  | 0, _, _ => rfl
  | n + 1, t, last => by
    unfold runC callers
    rw [stepAt_cong h, runC_cong n]
    simp only [callsAt_cong h]
end
theorem sends_perm {q1 q2 : List Way} (h : q1.Perm q2) (x y w : Str) (β : Int) : sends q1 x y w β ↔ sends q2 x y w β := by
  unfold sends
  simp only [h.mem_iff]
/-! all beats so many more -/
def sh (by' : Int) (last : Str → Option Int) : Str → Option Int := fun c => (last c).map (· + by')
section
variable {qs : List Way} {r d : Int} {ns : List Str}
theorem sh_some {last : Str → Option Int} {c : Str} {l : Int} : sh d last c = some (l + d) ↔ last c = some l := by
  unfold sh
  cases last c with
  | none => simp
  | some m => simp
theorem callsAt_sh {t : Int} {last : Str → Option Int} {c : Str} : callsAt qs r (sh d last) (t + d) c ↔ callsAt qs r last t c := by
  unfold callsAt hears may
  refine and_congr ⟨fun ⟨x, w, β, s, e⟩ => ⟨x, w, β, s, ?_⟩, fun ⟨x, w, β, s, e⟩ => ⟨x, w, β, s, ?_⟩⟩ ⟨fun h l e => ?_, fun h l e => ?_⟩
  · rw [show t + d - β = t - β + d by omega] at e
    exact sh_some.mp e
  · rw [show t + d - β = t - β + d by omega]
    exact sh_some.mpr e
  · have := h (l + d) (sh_some.mpr e)
    omega
  · have := h (l - d) (sh_some.mp (by rw [show l - d + d = l by omega]; exact e))
    omega
theorem stepAt_sh {t : Int} {last : Str → Option Int} : stepAt qs r (t + d) (sh d last) = sh d (stepAt qs r t last) := by
  funext c
  unfold stepAt
  simp only [callsAt_sh]
  show _ = Option.map (· + d) (if callsAt qs r last t c then some t else last c)
  split
  · rfl
  · rfl
theorem adv_sh : ∀ (n : Nat) (t : Int) (last : Str → Option Int), adv qs r (t + d) n (sh d last) = sh d (adv qs r t n last)
  | 0, _, _ => rfl
  | n + 1, t, last => by
    unfold adv
    rw [show t + d + 1 = t + 1 + d by omega, stepAt_sh, adv_sh n]
theorem runC_sh : ∀ (n : Nat) (t : Int) (last : Str → Option Int), runC qs r ns (t + d) n (sh d last) = (runC qs r ns t n last).map fun c => (c.1 + d, c.2)
  | 0, _, _ => rfl
  | n + 1, t, last => by
    unfold runC
    rw [show t + d + 1 = t + 1 + d by omega, stepAt_sh, runC_sh n, List.map_append, List.map_map]
    congr 1
    unfold callers
    simp only [callsAt_sh]
    rfl
theorem lasts_sh {b : Int} {last : Str → Option Int} (hd : 0 ≤ d) (h : lasts b last) : lasts (b + d) (sh d last) := fun c l e => by
  have := h c (l - d) (sh_some.mp (by rw [show l - d + d = l by omega]; exact e))
  omega
end
def callD (b : Int) (c : Str) : PyData := .tuple [.int b, .str c]
def callsD (cs : List (Int × Str)) : List PyData := cs.map fun c => callD c.1 c.2
end DL

set_option maxHeartbeats 4000000
/-! each call is heard; each caller's calls, one behind the other -/
namespace DL
open PySem PyProof.Rows
open Classical
section
variable {qs : List Way} {r : Int} {ns : List Str} {last : Str → Option Int} {b : Int}
theorem runC_mem {t : Int} {c : Str} : ∀ {n : Nat}, (t, c) ∈ runC qs r ns b n last ↔ ∃ k : Nat, k < n ∧ t = b + k + 1 ∧ c ∈ ns ∧ callsAt qs r (adv qs r b k last) (b + k + 1) c
  | 0 => by simp [runC]
  | n + 1 => by
    rw [runC_succ, List.mem_append, runC_mem (n := n)]
    constructor
    · rintro (⟨k, h1, h2⟩ | h)
      · exact ⟨k, by omega, h2⟩
      · obtain ⟨d, hd, e⟩ := List.mem_map.mp h
        cases e
        obtain ⟨g1, g2⟩ := callers_mem.mp hd
        exact ⟨n, by omega, rfl, g1, g2⟩
    · rintro ⟨k, h1, h2, h3, h4⟩
      by_cases e : k = n
      · subst e
        exact .inr (List.mem_map.mpr ⟨c, callers_mem.mpr ⟨h3, h4⟩, by rw [h2]⟩)
      · exact .inl ⟨k, by omega, h2, h3, h4⟩
theorem adv_some {c : Str} {l : Int} : ∀ {k : Nat}, adv qs r b k last c = some l → last c = some l ∨ ∃ j : Nat, j < k ∧ l = b + j + 1 ∧ callsAt qs r (adv qs r b j last) (b + j + 1) c
  | 0, h => .inl h
  | k + 1, h => by
    rw [adv_succ] at h
    unfold stepAt at h
    split at h
    · rename_i g
      cases h
      exact .inr ⟨k, by omega, rfl, g⟩
    · rcases adv_some h with q | ⟨j, h1, h2⟩
      · exact .inl q
      · exact .inr ⟨j, by omega, h2⟩
theorem adv_stay {c : Str} {l : Int} {j : Nat} (h : adv qs r b j last c = some l) : ∀ m : Nat, b + j + m < l + r → adv qs r b (j + m) last c = some l
  | 0, _ => h
  | m + 1, hm => by
    have q := adv_stay h m (by omega)
    rw [show j + (m + 1) = (j + m) + 1 by omega, adv_succ]
    unfold stepAt
    rw [if_neg]
    · exact q
    · intro z
      have := z.2 l q
      omega
theorem adv_call {c : Str} {j : Nat} (h : callsAt qs r (adv qs r b j last) (b + j + 1) c) : adv qs r b (j + 1) last c = some (b + j + 1) := by
  rw [adv_succ]
  unfold stepAt
  rw [if_pos h]
/-- a caller's last call, and those that come -/
noncomputable def bts (qs : List Way) (r : Int) (ns : List Str) (b : Int) (n : Nat) (last : Str → Option Int) (c : Str) : List Int := (last c).toList ++ ((runC qs r ns b n last).filter fun x => decide (x.2 = c)).map (·.1)
theorem bts_mem {n : Nat} {c : Str} {l : Int} : l ∈ bts qs r ns b n last c ↔ last c = some l ∨ ∃ k : Nat, k < n ∧ l = b + k + 1 ∧ c ∈ ns ∧ callsAt qs r (adv qs r b k last) (b + k + 1) c := by
  unfold bts
  rw [List.mem_append, Option.mem_toList]
  refine or_congr Iff.rfl ?_
  rw [List.mem_map]
  constructor
  · rintro ⟨⟨t, d⟩, h, rfl⟩
    obtain ⟨h1, h2⟩ := List.mem_filter.mp h
    have e : d = c := of_decide_eq_true h2
    subst e
    exact runC_mem.mp h1
  · intro h
    exact ⟨(l, c), List.mem_filter.mpr ⟨runC_mem.mpr h, decide_eq_true rfl⟩, rfl⟩
/-- what a caller's last call was, is among its calls -/
theorem adv_bts {n k : Nat} {c : Str} {l : Int} (hk : k ≤ n) (hc : c ∈ ns) (h : adv qs r b k last c = some l) : l ∈ bts qs r ns b n last c := by
  rcases adv_some h with q | ⟨j, h1, h2, h3⟩
  · exact bts_mem.mpr (.inl q)
  · exact bts_mem.mpr (.inr ⟨j, by omega, h2, hc, h3⟩)
/-- who calls, heard a neighbour just then -/
theorem bts_heard {n : Nat} {c : Str} {t : Int} (hl : lasts b last) (ht : b < t) (h : t ∈ bts qs r ns b n last c) (hin : ∀ x y w β, sends qs x y w β → x ∈ ns) : ∃ x w β, sends qs x c w β ∧ t - β ∈ bts qs r ns b n last x := by
  rcases bts_mem.mp h with q | ⟨k, h1, h2, _, ⟨x, w, β, s, e⟩, _⟩
  · have := (hl c t q).2
    omega
  · refine ⟨x, w, β, s, ?_⟩
    rw [h2]
    exact adv_bts (k := k) (by omega) (hin _ _ _ _ s) e
/-- each call finds who hears it calling just then, or hoarse -/
theorem bts_finds {n : Nat} {c y w : Str} {β l : Int} (hw : WOk r qs) (hl : lasts b last) (hy : y ∈ ns) (s : sends qs c y w β) (h : l ∈ bts qs r ns b n last c) (hb : b < l + β) (he : l + β ≤ b + n) :
    ∃ m ∈ bts qs r ns b n last y, l + β - r < m ∧ m ≤ l + β := by
  obtain ⟨_, h1, h2⟩ := hw.sends s
  obtain ⟨k, hk⟩ : ∃ k : Nat, l + β = b + k + 1 := ⟨(l + β - b - 1).toNat, by omega⟩
  have stay : adv qs r b k last c = some l := by
    rcases bts_mem.mp h with q | ⟨j, g1, g2, _, g4⟩
    · have := adv_stay (qs := qs) (r := r) (b := b) (j := 0) (last := last) q k (by omega)
      simpa using this
    · have := adv_stay (adv_call g4) (k - (j + 1)) (by omega)
      rw [show j + 1 + (k - (j + 1)) = k by omega] at this
      rw [g2]
      exact this
  have heard : hears qs (adv qs r b k last) (b + k + 1) y := ⟨c, w, β, s, by rw [stay]; congr 1; omega⟩
  by_cases m : may r (adv qs r b k last) (b + k + 1) y
  · exact ⟨l + β, bts_mem.mpr (.inr ⟨k, by omega, hk, hy, heard, m⟩), by omega, by omega⟩
  · simp only [may] at m
    obtain ⟨m, hm⟩ := Classical.not_forall.mp m
    obtain ⟨e, hm2⟩ := Classical.not_imp.mp hm
    have lb : lasts (b + k) (adv qs r b k last) ∨ True := .inr trivial
    have up : m ≤ b + k := by
      rcases adv_some e with q | ⟨j, g1, g2, _⟩
      · have := (hl y m q).2
        omega
      · omega
    exact ⟨m, adv_bts (k := k) (by omega) hy e, by omega, by omega⟩
/-- a caller's calls are a rest apart -/
theorem bts_succ {n : Nat} {c : Str} (hn : ns.Nodup) (hc : c ∈ ns) : bts qs r ns b (n + 1) last c = bts qs r ns b n last c ++ if callsAt qs r (adv qs r b n last) (b + n + 1) c then [b + n + 1] else [] := by
  unfold bts
  rw [runC_succ, List.filter_append, List.map_append, List.append_assoc]
  congr 2
  rw [List.filter_map, List.map_map]
  have e : ((fun x : Int × Str => decide (x.2 = c)) ∘ fun d => (b + (n : Int) + 1, d)) = fun d => decide (d = c) := rfl
  rw [e]
  unfold callers
  rw [List.filter_filter]
  by_cases g : callsAt qs r (adv qs r b n last) (b + n + 1) c
  · rw [if_pos g]
    have e2 : ns.filter (fun a => decide (a = c) && decide (callsAt qs r (adv qs r b n last) (b + n + 1) a)) = ns.filter (fun a => a == c) := List.filter_congr fun a _ => by
      by_cases z : a = c
      · subst z; simp [g]
      · simp [z]
    rw [e2, List.filter_beq, hn.count, if_pos hc]
    rfl
  · rw [if_neg g]
    have e2 : ns.filter (fun a => decide (a = c) && decide (callsAt qs r (adv qs r b n last) (b + n + 1) a)) = [] := List.filter_eq_nil_iff.mpr fun a _ => by
      by_cases z : a = c
      · subst z; simp [g]
      · simp [z]
    rw [e2]
    rfl
theorem bts_rise {c : Str} (hn : ns.Nodup) (hc : c ∈ ns) (hl : lasts b last) : ∀ n : Nat, (bts qs r ns b n last c).Pairwise (fun x y => r ≤ y - x) ∧ ∀ l ∈ bts qs r ns b n last c, adv qs r b n last c = some l ∨ ∃ m, adv qs r b n last c = some m ∧ r ≤ m - l
  | 0 => by
    have e : bts qs r ns b 0 last c = (last c).toList := by simp [bts, runC]
    rw [e]
    refine ⟨?_, fun l h => .inl (by simpa [adv] using h)⟩
    cases last c with
    | none => exact List.Pairwise.nil
    | some l => exact List.pairwise_singleton _ _
  | n + 1 => by
    obtain ⟨h1, h2⟩ := bts_rise hn hc hl n
    rw [bts_succ hn hc]
    by_cases g : callsAt qs r (adv qs r b n last) (b + n + 1) c
    · rw [if_pos g, adv_call g]
      have far : ∀ l ∈ bts qs r ns b n last c, r ≤ b + n + 1 - l := fun l hm => by
        rcases h2 l hm with e | ⟨m, e, hr⟩
        · have := g.2 l e
          omega
        · have := g.2 m e
          by_cases r0 : 0 ≤ r
          · omega
          · have up : m ≤ b + n := by
              rcases adv_some e with q | ⟨j, g1, g2, _⟩
              · have := (hl c m q).2
                omega
              · omega
            omega
      refine ⟨List.pairwise_append.mpr ⟨h1, List.pairwise_singleton _ _, fun x hx y hy => ?_⟩, fun l hm => ?_⟩
      · rw [List.mem_singleton.mp hy]
        exact far x hx
      · rcases List.mem_append.mp hm with q | q
        · exact .inr ⟨_, rfl, far l q⟩
        · rw [List.mem_singleton.mp q]
          exact .inl rfl
    · rw [if_neg g, List.append_nil]
      have e : adv qs r b (n + 1) last c = adv qs r b n last c := by
        rw [adv_succ]
        unfold stepAt
        rw [if_neg g]
      rw [e]
      exact ⟨h1, h2⟩
end
/-! the calls rise -/
theorem runC_beats {qs : List Way} {r : Int} {ns : List Str} {b : Int} {n : Nat} {last : Str → Option Int} {x : Int × Str} (h : x ∈ runC qs r ns b n last) : b < x.1 ∧ x.1 ≤ b + n ∧ x.2 ∈ ns := by
  obtain ⟨k, h1, h2, h3, _⟩ := runC_mem.mp (show (x.1, x.2) ∈ _ from h)
  exact ⟨by omega, by omega, h3⟩
def leC (x y : Int × Str) : Prop := x.1 < y.1 ∨ x.1 = y.1 ∧ strLe x.2 y.2
theorem runC_rise {qs : List Way} {r : Int} {ns : List Str} (hs : sortedS ns = true) {b : Int} {last : Str → Option Int} : ∀ n : Nat, (runC qs r ns b n last).Pairwise leC
  | 0 => List.Pairwise.nil
  | n + 1 => by
    rw [runC_succ]
    refine List.pairwise_append.mpr ⟨runC_rise hs n, ?_, fun x hx y hy => ?_⟩
    · refine List.pairwise_map.mpr ?_
      unfold callers
      exact ((sortedS_le hs).filter _).imp fun h => .inr ⟨rfl, h⟩
    · obtain ⟨c, _, rfl⟩ := List.mem_map.mp hy
      have := (runC_beats hx).2.1
      exact .inl (by show x.1 < b + n + 1; omega)
end DL

set_option maxHeartbeats 4000000
/-! dict(zip(a, b)) over tuples and lists -/
namespace DL
open PySem PySem.Spec PyProof.Rows L2 RZ
section
variable {prog : Program} {w : World} {A : Around} {E : Value → Shared → Prop} {s : Shared} {z TI TO i1 i2 : Addr} {fp1 fp2 : List Addr} {n1 n2 i : Nat} {P1 P2 : Nat → Value → Prop} {St1 St2 : Nat → Heap → Prop}
/-- zip.__next__ while its own tuple is held by somebody else: it asks its two iterators one behind the other, and makes a new one -/
theorem held_next {T : Addr} {f : Bool} {oT : Obj} {Q : Fin → Shared → Prop} (hz : IsZipHeld s.heap z TI TO T f) (hT : s.heap.get? T = some oT) (hTI : IsTupOf2 s.heap TI (.ref i1) (.ref i2))
    (go : ∀ h₁, IsZipHeld h₁ z TI TO T true → Heap.SameBut z s.heap h₁ → wpAny (model prog w) A (Builtin.SmallTypes.nextOf (.ref i1)) (fun x1 s2 => wpAny (model prog w) A (Builtin.SmallTypes.nextOf (.ref i2)) (fun x2 s3 =>
      Q (.done (.ret (.ref s3.heap.objs.size))) { s3 with heap := s3.heap.push { cls := .type "tuple", data := .seq #[x1, x2] } }) E s2) E { s with heap := h₁ }) :
    wpAny (model prog w) A (Builtin.«zip.__next__» ⟨[.ref z], []⟩) Q E s := by
  refine wpAny_bind (m := field (.ref z) 2) (wpAny_field hz rfl (x := .bool false) rfl (wpAny_bind (m := field (.ref z) 3) (wpAny_field hz rfl (x := .ref TI) rfl (wpAny_bind (wpAny_seqItems hTI rfl (wpAny_bind (m := Builtin.SmallTypes.ownedTupleIsFree (.ref z)) ?_))))))
  refine wpAny_tupleHeld_zip hz hT fun h₁ hz₁ hs₁ => ?_
  simp only [Bool.false_eq_true, if_false]
  refine wpAny_bind ?_
  simp only [← Array.forIn_toList, List.forIn_cons, List.forIn_nil]
  refine wpAny_bind (wpAny_bind (wpAny_holding (wpAny_bind (m := Builtin.SmallTypes.nextOf (.ref i1)) (wpAny_mono (go h₁ hz₁ hs₁) (fun x1 s2 q => wpAny_pure (wpAny_pure ?_)) fun _ _ e => e))))
  refine wpAny_bind (wpAny_bind (wpAny_holding (wpAny_bind (m := Builtin.SmallTypes.nextOf (.ref i2)) (wpAny_mono q (fun x2 s3 q => wpAny_pure (wpAny_pure (wpAny_pure ?_))) fun _ _ e => e))))
  exact wpAny_bind (m := newTuple [x1, x2]) (wpAny_newTuple (wpAny_pure q))
theorem zipD2_held_item {T : Addr} {f : Bool} {oT : Obj} {Q : Value → Shared → Prop} (S : ZipSep2 z TI TO i1 i2 fp1 fp2) (D1 : Draws prog w A i1 fp1 n1 P1 St1) (D2 : Draws prog w A i2 fp2 n2 P2 St2)
    (hz : IsZipHeld s.heap z TI TO T f) (hT : s.heap.get? T = some oT) (hTI : IsTupOf2 s.heap TI (.ref i1) (.ref i2)) (st1 : St1 i s.heap) (st2 : St2 i s.heap) (hlt1 : i < n1) (hlt2 : i < n2)
    (hQ : ∀ x1 x2 h' tk, P1 i x1 → P2 i x2 → IsZipHeld h' z TI TO T true → St1 (i + 1) h' → St2 (i + 1) h' → IsTupOf2 h' s.heap.objs.size x1 x2 →
      (∀ c o, c ≠ z → c ≠ i1 → c ≠ i2 → s.heap.get? c = some o → h'.get? c = some o) → Q (.ref s.heap.objs.size) { s with heap := h', toks := tk }) :
    wpAny (model prog w) A (Builtin.«zip.__next__» ⟨[.ref z], []⟩) (fun fin s' => ∃ v, fin = .done (.ret v) ∧ Q v s') E s := by
  refine held_next hz hT hTI fun h₁ hz₁ hs₁ => D1.item i _ _ _ hlt1 (D1.over st1 hs₁ S.zf1) fun x1 h₂ tk1 y1 sn1 hs₂ => D2.item i _ _ _ hlt2 (D2.over (D2.over st2 hs₁ S.zf2) hs₂ S.sep1_2) fun x2 h₃ tk2 y2 sn2 hs₃ => ⟨_, rfl, ?_⟩
  have top : h₃.objs.size = s.heap.objs.size := (hs₃.1.trans hs₂.1).trans hs₁.1
  have up : ∀ c o, h₃.get? c = some o → (h₃.push { cls := .type "tuple", data := .seq #[x1, x2] }).get? c = some o := fun c o e => Heap.get?_push_of_some _ e
  have made : IsTupOf2 (h₃.push { cls := .type "tuple", data := .seq #[x1, x2] }) h₃.objs.size x1 x2 := Heap.get?_push_size _ rfl
  show Q (.ref h₃.objs.size) _
  rw [top] at made ⊢
  exact hQ x1 x2 _ tk2 y1 y2 (up _ _ (hs₃.extBut _ _ S.zi2 (hs₂.extBut _ _ S.zi1 hz₁))) (D1.frame _ _ _ (D1.over sn1 hs₃ S.sep2_1) fun b _ o => up b o) (D2.frame _ _ _ sn2 fun b _ o => up b o) made
    fun c o c1 c2 c3 e => up c o (hs₃.extBut _ _ c3 (hs₂.extBut _ _ c2 (hs₁.extBut _ _ c1 e)))
theorem zipD2_held_end {T : Addr} {f : Bool} {oT : Obj} {Q : Fin → Shared → Prop} (S : ZipSep2 z TI TO i1 i2 fp1 fp2) (D1 : Draws prog w A i1 fp1 n1 P1 St1) (D2 : Draws prog w A i2 fp2 n2 P2 St2)
    (hz : IsZipHeld s.heap z TI TO T f) (hT : s.heap.get? T = some oT) (hTI : IsTupOf2 s.heap TI (.ref i1) (.ref i2)) (st1 : St1 i s.heap) (st2 : St2 i s.heap) (hle1 : i ≤ n1) (hle2 : i ≤ n2) (hend : i = n1 ∨ i = n2)
    (hE : ∀ h' tk e, (∀ c o, c ≠ z → c ≠ i1 → c ≠ i2 → s.heap.get? c = some o → h'.get? c = some o) → (∃ o, h'.get? e = some o ∧ o.cls = .type "StopIteration") → E (.ref e) { s with heap := h', toks := tk }) :
    wpAny (model prog w) A (Builtin.«zip.__next__» ⟨[.ref z], []⟩) Q E s := by
  refine held_next hz hT hTI fun h₁ hz₁ hs₁ => ?_
  by_cases lt : i < n1
  · have e2 : i = n2 := by omega
    refine D1.item i _ _ _ lt (D1.over st1 hs₁ S.zf1) fun x1 h₂ tk1 y1 sn1 hs₂ => D2.done _ _ _ ?_ fun q e hq he => hE q tk1 e (fun c o cz c1 c2 x => hq _ _ c2 (hs₂.extBut _ _ c1 (hs₁.extBut _ _ cz x))) he
    rw [← e2]
    exact D2.over (D2.over st2 hs₁ S.zf2) hs₂ S.sep1_2
  · have e1 : i = n1 := by omega
    refine D1.done _ _ _ ?_ fun q e hq he => hE q s.toks e (fun c o cz c1 c2 x => hq _ _ c1 (hs₁.extBut _ _ cz x)) he
    rw [← e1]
    exact D1.over st1 hs₁ S.zf1
theorem pyNext_held_item {T : Addr} {f : Bool} {oT : Obj} {Q : Option Value → Shared → Prop} (S : ZipSep2 z TI TO i1 i2 fp1 fp2) (D1 : Draws prog w A.in1 i1 fp1 n1 P1 St1) (D2 : Draws prog w A.in1 i2 fp2 n2 P2 St2)
    (hz : IsZipHeld s.heap z TI TO T f) (hT : s.heap.get? T = some oT) (hTI : IsTupOf2 s.heap TI (.ref i1) (.ref i2)) (st1 : St1 i s.heap) (st2 : St2 i s.heap) (hlt1 : i < n1) (hlt2 : i < n2)
    (hQ : ∀ x1 x2 h' tk, P1 i x1 → P2 i x2 → IsZipHeld h' z TI TO T true → St1 (i + 1) h' → St2 (i + 1) h' → IsTupOf2 h' s.heap.objs.size x1 x2 →
      (∀ c o, c ≠ z → c ≠ i1 → c ≠ i2 → s.heap.get? c = some o → h'.get? c = some o) → Q (some (.ref s.heap.objs.size)) { s with heap := h', toks := tk }) :
    wpAny (model prog w) A (pyNext (.ref z)) Q E s := by
  have hTy : s.TypeIs (.ref z) "zip" := ⟨_, hz, rfl⟩
  unfold pyNext
  exact wpAny_bind (wpAny_attempt (wpAny_callSpecial?_slot (name := Str.ofString "__next__") hTy F.slot_zip_next
    (wpAny_call_entry F.slot_zip_next hTy F.entry_zip_next
      (zipD2_held_item S D1 D2 hz hT hTI st1 st2 hlt1 hlt2 fun x1 x2 h' tk a1 a2 a3 a4 a5 a6 a7 => wpAny_pure (hQ x1 x2 h' tk a1 a2 a3 a4 a5 a6 a7)) (F.args_zip_next_1 _))))
theorem pyNext_held_end {T : Addr} {f : Bool} {oT : Obj} {Q : Option Value → Shared → Prop} (S : ZipSep2 z TI TO i1 i2 fp1 fp2) (D1 : Draws prog w A.in1 i1 fp1 n1 P1 St1) (D2 : Draws prog w A.in1 i2 fp2 n2 P2 St2)
    (hz : IsZipHeld s.heap z TI TO T f) (hT : s.heap.get? T = some oT) (hTI : IsTupOf2 s.heap TI (.ref i1) (.ref i2)) (st1 : St1 i s.heap) (st2 : St2 i s.heap) (hle1 : i ≤ n1) (hle2 : i ≤ n2) (hend : i = n1 ∨ i = n2)
    (hQ : ∀ h' tk, (∀ c o, c ≠ z → c ≠ i1 → c ≠ i2 → s.heap.get? c = some o → h'.get? c = some o) → Q none { s with heap := h', toks := tk }) : wpAny (model prog w) A (pyNext (.ref z)) Q E s := by
  have hTy : s.TypeIs (.ref z) "zip" := ⟨_, hz, rfl⟩
  unfold pyNext
  refine wpAny_bind (wpAny_attempt (wpAny_callSpecial?_slot (name := Str.ofString "__next__") hTy F.slot_zip_next
    (wpAny_call_entry F.slot_zip_next hTy F.entry_zip_next (zipD2_held_end S D1 D2 hz hT hTI st1 st2 hle1 hle2 hend fun h' tk e hk he => ?_) (F.args_zip_next_1 _))))
  obtain ⟨o, ho, hc⟩ := he
  refine wpAny_bind (wpAny_isInstance (T := "StopIteration") (b := true) ⟨o, ho, hc⟩ isSubtype_stop ?_)
  exact wpAny_pure (hQ _ _ hk)
end
theorem pairArg_zipD {prog : Program} {w : World} {z TI TO i1 i2 : Addr} {fp1 fp2 : List Addr} {n1 n2 : Nat} {P1 P2 : Nat → Value → Prop} {St1 St2 : Nat → Heap → Prop} (S : ZipSep2 z TI TO i1 i2 fp1 fp2) (D1 : ∀ A : Around, A.handled = none → Draws prog w A i1 fp1 n1 P1 St1) (D2 : ∀ A : Around, A.handled = none → Draws prog w A i2 fp2 n2 P2 St2)
    (L1 : ∀ h, St1 0 h → ∀ b ∈ fp1, ∃ o, h.get? b = some o) (L2' : ∀ h, St2 0 h → ∀ b ∈ fp2, ∃ o, h.get? b = some o) :
    PairArg prog w "zip" z (z :: TI :: TO :: (fp1 ++ fp2)) [z, TO, i1, i2] (min n1 n2) (fun i k v => P1 i k ∧ P2 i v)
      (fun h => IsZip h z TI TO .none ∧ IsTupOf2 h TI (.ref i1) (.ref i2) ∧ (∃ a b, IsTupOf2 h TO a b) ∧ St1 0 h ∧ St2 0 h) where
  type := fun _ here => ⟨_, here.1, rfl⟩
  notDict := by decide
  keep := fun h h' here up =>
    let ⟨g1, g2, ⟨u, v, g3⟩, g4, g5⟩ := here
    ⟨up _ _ g1, up _ _ g2, ⟨u, v, up _ _ g3⟩, (D1 {} rfl).frame _ _ _ g4 fun b _ => up b, (D2 {} rfl).frame _ _ _ g5 fun b _ => up b⟩
  there := fun h here b hb => by
    obtain ⟨g1, g2, ⟨u, v, g3⟩, g4, g5⟩ := here
    simp only [List.mem_cons, List.mem_append] at hb
    rcases hb with e | e | e | e | e
    · exact ⟨_, e ▸ g1⟩
    · exact ⟨_, e ▸ g2⟩
    · exact ⟨_, e ▸ g3⟩
    · exact L1 h g4 b e
    · exact L2' h g5 b e
  sub := fun c hc => by
    simp only [List.mem_cons, List.mem_append, List.not_mem_nil, or_false] at hc ⊢
    rcases hc with e | e | e | e <;> subst e <;> simp [S.mem1, S.mem2]
  noKeys := fun A s Q E calm here q => getAttrOr_miss_zip here.1 rfl rfl rfl zip_no_keys (by decide +kernel) calm q
  iter := fun A s d Q E hA here hd hdf h => by
    obtain ⟨hz, hTI, ⟨a, b, hTO⟩, h1, h2⟩ := here
    have dz : d ≠ z := fun e => hdf (by rw [e]; exact List.mem_cons_self)
    have dTI : d ≠ TI := fun e => hdf (by rw [e]; exact List.mem_cons_of_mem _ List.mem_cons_self)
    have dTO : d ≠ TO := fun e => hdf (by rw [e]; exact List.mem_cons_of_mem _ (List.mem_cons_of_mem _ List.mem_cons_self))
    have df1 : ∀ b ∈ fp1, b ≠ d := fun b hb e => hdf (by rw [← e]; exact List.mem_cons_of_mem _ (List.mem_cons_of_mem _ (List.mem_cons_of_mem _ (List.mem_append_left _ hb))))
    have df2 : ∀ b ∈ fp2, b ≠ d := fun b hb e => hdf (by rw [← e]; exact List.mem_cons_of_mem _ (List.mem_cons_of_mem _ (List.mem_cons_of_mem _ (List.mem_append_right _ hb))))
    refine wpAny_pyIter_zip hz (h z [z, TO, i1, i2] (fun i h => IsTupOf2 h TI (.ref i1) (.ref i2) ∧ St1 i h ∧ St2 i h ∧
      ((IsZip h z TI TO .none ∧ ∃ a b, IsTupOf2 h TO a b) ∨ ∃ T f oT, IsZipHeld h z TI TO T f ∧ h.get? T = some oT ∧ T ≠ z ∧ T ≠ i1 ∧ T ≠ i2 ∧ T ≠ d)) s.heap s.toks ?_
      ⟨hTI, h1, h2, .inl ⟨hz, a, b, hTO⟩⟩ (fun _ _ e => e) fun b hb => .inl hb)
    exact {
      off := fun hm => by
        simp only [List.mem_cons, List.not_mem_nil, or_false] at hm
        exact hm.elim dz fun e => e.elim dTO fun e => e.elim (fun e => df1 _ S.mem1 e.symm) fun e => df2 _ S.mem2 e.symm
      frame := fun i x y st up => by
        obtain ⟨g, g1, g2, g3⟩ := st
        refine ⟨up _ _ dTI.symm g, (D1 {} rfl).frame _ _ _ g1 fun b hb o e => up b o (df1 b hb) e, (D2 {} rfl).frame _ _ _ g2 fun b hb o e => up b o (df2 b hb) e, g3.imp (fun ⟨g, u, v, e⟩ => ⟨up _ _ dz.symm g, u, v, up _ _ dTO.symm e⟩) ?_⟩
        exact fun ⟨T, f, oT, g, e, r1, r2, r3, r4⟩ => ⟨T, f, oT, up _ _ dz.symm g, up _ _ r4 e, r1, r2, r3, r4⟩
      item := fun i s₁ Q₁ E₁ hi now hds hQ => by
        obtain ⟨hTI, h1, h2, hz⟩ := now
        have hi1 : i < n1 := by omega
        have hi2 : i < n2 := by omega
        have lt : ∀ {c : Addr} {o : Obj}, s₁.heap.get? c = some o → ¬ s₁.heap.objs.size = c := fun e z => absurd (Heap.lt_size e) (by rw [z]; exact Nat.lt_irrefl _)
        have e1 : s₁.heap.objs.size ≠ i1 := by obtain ⟨_, e⟩ := (D1 {} rfl).live _ _ h1; exact lt e
        have e2 : s₁.heap.objs.size ≠ i2 := by obtain ⟨_, e⟩ := (D2 {} rfl).live _ _ h2; exact lt e
        rcases hz with ⟨hz, u, v, hTO⟩ | ⟨T, f, oT, hz, hT, r1, r2, r3, r4⟩
        · refine wpAny_pyNext_zipD2_item S (D1 _ hA) (D2 _ hA) hz hTI hTO h1 h2 hi1 hi2 fun x1 x2 h' tk y1 y2 b1 b2 d1 d2 b5 b6 hk => ?_
          exact hQ s₁.heap.objs.size _ _ h' tk ⟨y1, y2⟩ (.inl ⟨_, b5, rfl, _, rfl⟩)
            ⟨hk _ _ S.TIz S.TITO S.TIi1 S.TIi2 hTI, d1, d2, .inr ⟨s₁.heap.objs.size, false, _, b1, b5, lt hz, e1, e2, Nat.ne_of_gt hds⟩⟩
            fun c o off e => by
              simp only [List.mem_cons, List.not_mem_nil, or_false, not_or] at off
              exact hk c o off.1 off.2.1 off.2.2.1 off.2.2.2 e
        · refine pyNext_held_item S (D1 _ hA) (D2 _ hA) hz hT hTI h1 h2 hi1 hi2 fun x1 x2 h' tk y1 y2 a1 a3 a4 a5 hk => ?_
          exact hQ s₁.heap.objs.size _ _ h' tk ⟨y1, y2⟩ (.inl ⟨_, a5, rfl, _, rfl⟩)
            ⟨hk _ _ S.TIz S.TIi1 S.TIi2 hTI, a3, a4, .inr ⟨T, true, oT, a1, hk _ _ r1 r2 r3 hT, r1, r2, r3, r4⟩⟩
            fun c o off e => by
              simp only [List.mem_cons, List.not_mem_nil, or_false, not_or] at off
              exact hk c o off.1 off.2.2.1 off.2.2.2 e
      done := fun s₁ Q₁ E₁ now hQ => by
        obtain ⟨hTI, h1, h2, hz⟩ := now
        rcases hz with ⟨hz, u, v, hTO⟩ | ⟨T, f, oT, hz, hT, r1, r2, r3, r4⟩
        · exact wpAny_pyNext_zipD2_end S (D1 _ hA) (D2 _ hA) hz hTI hTO h1 h2 (by omega) (by omega) (by omega) fun h' tk hk => hQ h' tk fun c o off e => by
              simp only [List.mem_cons, List.not_mem_nil, or_false, not_or] at off
              exact hk c o off.1 off.2.1 off.2.2.1 off.2.2.2 e
        · exact pyNext_held_end S (D1 _ hA) (D2 _ hA) hz hT hTI h1 h2 (by omega) (by omega) (by omega) fun h' tk hk => hQ h' tk fun c o off e => by
              simp only [List.mem_cons, List.not_mem_nil, or_false, not_or] at off
              exact hk c o off.1 off.2.2.1 off.2.2.2 e }
end DL

set_option maxHeartbeats 4000000
namespace DL
open PySem PySem.Spec PyProof.Rows L2 RZ
/-- a list or a tuple at a -/
def SqA (K : PySem.W.Frag) (H : Hp) (a : Addr) (xs : List V) : Prop := SqL K H a xs ∨ SqT K H a xs
def rDictZip (K : PySem.W.Frag) : List V → Hp → VK → Prop := fun vs H Q => ∃ (a b : Addr) (xs ys : List V) (kvs : List (Key × V)), vs = [.ref a, .ref b] ∧ SqA K H a xs ∧ SqA K H b ys ∧ kvs.length = min xs.length ys.length ∧ (∀ (i : Nat) (kv : Key × V), kvs[i]? = some kv → xs[i]? = some (kV kv.1) ∧ ys[i]? = some kv.2) ∧
  ∀ p, H p = none → Q (.ref p) (upd H p (.dK (mergeK [] kvs)))
theorem paired_of {α β : Type} {R : α → β → Prop} : ∀ {xs : List α} {ys : List β}, xs.length = ys.length → (∀ (i : Nat) x y, xs[i]? = some x → ys[i]? = some y → R x y) → Paired R xs ys
  | [], [], _, _ => .nil
  | x :: xs, y :: ys, hl, h => .cons (h 0 x y rfl rfl) (paired_of (by simpa using hl) fun i a b e1 e2 => h (i + 1) a b (by simpa using e1) (by simpa using e2))
  | [], _ :: _, hl, _ => by simp at hl
  | _ :: _, [], hl, _ => by simp at hl
theorem ne_addr {x N : Nat} (h : x < N) (k : Nat) : ¬ (N + k = x) := by omega
section
variable {X : Cx}
/-- what an iterator over a list or a tuple is -/
theorem seq_iter {pins : List (Addr × Obj)} {σ : L2.St} {H : Hp} {s : Shared} {a : Addr} {xs : List V} (I : Inv X pins σ H s) (h : SqA X.K H a xs) : ∃ (its : List Value) (o : Obj) (Hc : Heap → Prop), Vals xs its ∧ a < s.heap.objs.size ∧ xs.length ≤ sizeLine ∧ Begins (.ref a) o Hc ∧ Hc s.heap ∧
    ∀ (it : Addr), a ≠ it → ∃ St : Nat → Heap → Prop, (∀ A : Around, A.handled = none → Draws X.prog X.w A it [it, a] its.length (fun i v => its[i]? = some v) St) ∧ (∀ h', h'.get? it = some o → (∀ c o', s.heap.get? c = some o' → h'.get? c = some o') → St 0 h') ∧ (∀ h', St 0 h' → ∀ b ∈ [it, a], ∃ o, h'.get? b = some o) := by
  rcases h with h | h
  · obtain ⟨its, rv, p, hz⟩ := I.list h
    refine ⟨its, _, _, rv, p.lt, hz, begins_list a its.toArray, p.isList, fun it ne => ⟨fun i h => h.IsListIter it a i ∧ h.IsList a its.toArray, fun A hA => ?_, fun h' e k => ⟨⟨_, e, rfl, rfl⟩, p.isList.at fun o q => k a o q⟩, fun h' st b hb => ?_⟩⟩
    · have := Draws.list (prog := X.prog) (w := X.w) hA it a ne its.toArray
      simpa using this
    · obtain ⟨⟨o1, e1, _⟩, ⟨o2, e2, _⟩⟩ := st
      simp only [List.mem_cons, List.not_mem_nil, or_false] at hb
      rcases hb with rfl | rfl
      · exact ⟨_, e1⟩
      · exact ⟨_, e2⟩
  · obtain ⟨its, rv, p, hz⟩ := I.tuple h
    have p' : s.heap.IsTuple a its.toArray := p
    refine ⟨its, _, _, rv, p.lt, hz, begins_tuple a its.toArray, p', fun it ne => ⟨fun i h => h.IsTupleIter it a i ∧ h.IsTuple a its.toArray, fun A hA => ?_, fun h' e k => ⟨⟨_, e, rfl, rfl⟩, p'.at fun o q => k a o q⟩, fun h' st b hb => ?_⟩⟩
    · have := Draws.tuple (prog := X.prog) (w := X.w) hA it a ne its.toArray
      simpa using this
    · obtain ⟨⟨o1, e1, _⟩, ⟨o2, e2, _⟩⟩ := st
      simp only [List.mem_cons, List.not_mem_nil, or_false] at hb
      rcases hb with rfl | rfl
      · exact ⟨_, e1⟩
      · exact ⟨_, e2⟩
def tDictZip (K : PySem.W.Frag) (ta : TA) : TE := fun σ H Q => ta σ H fun vs H1 => rDictZip K vs H1 Q
variable {a b : Expr} {ta : TA} {pos pos2 p p2 : Pos}
theorem pe_dictZip (hc : X.calm = true) (g1 : Gl X "dict") (m1 : X.mg "dict" = none) (g2 : Gl X "zip") (m2 : X.mg "zip" = none) (ha : PA X [a, b] ta)
    (he : starEach [.Call (.Name "zip" p2) [a, b] [] pos2] X.env = [(false, eval (.Call (.Name "zip" p2) [a, b] [] pos2) X.env)] := by rfl)
    (he2 : starEach [a, b] X.env = (false, eval a X.env) :: starEach [b] X.env := by rfl) (hpl : (backTo pos2 (starEach [b] X.env)).any (·.1) = false := by rfl) :
    PE X (.Call (.Name "dict" p) [.Call (.Name "zip" p2) [a, b] [] pos2] [] pos) (tDictZip X.K ta) := by
  refine ⟨fun pins s σ H Q I h => ?_⟩
  refine wpAny_Call_Name_kw (ld_blt I g1 m1 PyProof.Rows.boot_dict ?_ (by decide) (by decide))
  refine PyProof.Rows.callWith_type1 ?_ he rfl
  rw [he]
  show wpAny _ _ (spliced ((false, eval (.Call (.Name "zip" p2) [a, b] [] pos2) X.env) :: [])) _ _ s
  refine Calls.spliced_cons ?_
  refine wpAny_Call_Name_kw (ld_blt I g2 m2 PyProof.Rows.boot_zip ?_ (by decide) (by decide))
  refine PyProof.Rows.callWith_type1 (thn (ha.run pos2 pins s σ H _ I h) fun us s1 ⟨vs, H1, I1, r1, q1⟩ => ?_) he2 hpl
  obtain ⟨x, y, xs, ys, kvs, ev, hx, hy, hkl, hkv, q⟩ := q1
  subst ev
  have eu : us = [Value.ref x, Value.ref y] := by
    cases r1 with
    | cons r rr =>
      cases rr with
      | cons r' rr =>
        cases rr
        cases r
        cases r'
        rfl
  subst eu
  obtain ⟨its, o1, H1c, rv1, lx, z1, B1, hc1, mk1⟩ := seq_iter I1 hx
  obtain ⟨its2, o2, H2c, rv2, ly, z2, B2, hc2, mk2⟩ := seq_iter I1 hy
  refine zip_begins2 B1 B2 hc1 hc2 fun h' hz hTI hTO e1 e2 hsz hk => ?_
  obtain ⟨N, hN⟩ : ∃ N, N = s1.heap.objs.size := ⟨_, rfl⟩
  obtain ⟨St1, D1, i1, L1⟩ := mk1 s1.heap.objs.size (Nat.ne_of_lt lx)
  obtain ⟨St2, D2, i2, L2'⟩ := mk2 (s1.heap.objs.size + 1) (Nat.ne_of_lt (Nat.lt_succ_of_lt ly))
  refine Calls.spliced_nil ?_
  have S : ZipSep2 (s1.heap.objs.size + 4) (s1.heap.objs.size + 2) (s1.heap.objs.size + 3) s1.heap.objs.size (s1.heap.objs.size + 1) [s1.heap.objs.size, x] [s1.heap.objs.size + 1, y] := by
    rw [← hN] at lx ly ⊢
    constructor <;> simp <;> first | exact ne_addr lx 4 | exact ne_addr lx 3 | exact ne_addr lx 1 | exact ne_addr ly 4 | exact ne_addr ly 3 | exact ne_addr ly 0
  have P := pairArg_zipD (prog := X.prog) (w := X.w) S D1 D2 L1 L2'
  have l1 := rv1.length
  have l2 := rv2.length
  obtain ⟨prs, hpl2, hpg⟩ : ∃ prs : List (Key × Value), prs.length = kvs.length ∧ ∀ (i : Nat) q, prs[i]? = some q → ∃ kv, kvs[i]? = some kv ∧ q.1 = kv.1 ∧ its2[i]? = some q.2 := by
    refine ⟨List.zipWith (fun kv u => (kv.1, u)) kvs its2, by rw [List.length_zipWith]; omega, fun i q e => ?_⟩
    rw [List.getElem?_zipWith] at e
    cases ek : kvs[i]? with
    | none => rw [ek] at e; cases e
    | some kv =>
      cases eu : its2[i]? with
      | none => rw [ek, eu] at e; cases e
      | some u =>
        rw [ek, eu] at e
        cases e
        exact ⟨kv, rfl, rfl, rfl⟩
  have rel : KV kvs prs := paired_of hpl2.symm fun i kv q ek eq => by
    obtain ⟨kv', e1, e2, e3⟩ := hpg i q eq
    rw [ek] at e1
    cases e1
    refine ⟨e2.symm, ?_⟩
    obtain ⟨u, hu, ru⟩ := Vals.get rv2 (hkv i kv ek).2
    rw [e3] at hu
    cases hu
    exact ru
  refine call_dict_pairs (knd := mixKind X.prog X.w) (kvs := prs) P (I1.ok.hd hc) ⟨hz, hTI, ⟨_, _, hTO⟩, i1 h' e1 hk, i2 h' e2 hk⟩ ⟨by omega, fun i key v hr => ?_⟩ (by omega) fun h'' tk hd' k => ?_
  · obtain ⟨hr1, hr2⟩ := hr
    have hi : i < prs.length := by
      have q1 := (List.getElem?_eq_some_iff.mp hr1).1
      have q2 := (List.getElem?_eq_some_iff.mp hr2).1
      omega
    obtain ⟨kv, e1, e2, e3⟩ := hpg i _ (List.getElem?_eq_getElem hi)
    rw [hr2] at e3
    refine ⟨kv.1, ?_, ?_⟩
    · rw [List.getElem?_eq_getElem hi]
      congr 1
      exact Prod.ext e2 (Option.some.inj e3).symm
    · obtain ⟨u, hu, ru⟩ := Vals.get rv1 (hkv i kv e1).1
      rw [hr1] at hu
      cases hu
      exact kV_is (P := X.prog) (w := X.w) ru
  · have kk : ∀ c o, s1.heap.get? c = some o → h''.get? c = some o := fun c o e => by
      have hlt := Heap.lt_size e
      refine k c o (fun z => ?_) (hk c o e)
      simp only [List.mem_cons, List.not_mem_nil, or_false] at z
      rcases z with z | z | z | z <;> first | exact ne_addr hlt _ z.symm | exact ne_addr hlt 0 z.symm
    have hm : (h'.objs.size == sysModules) = false := beq_eq_false_iff_ne.mpr (Nat.ne_of_gt (Nat.lt_of_lt_of_le I1.big (by rw [hsz]; exact Nat.le_add_right _ _)))
    have hlen : (mergeK [] kvs).length ≤ sizeLine := by
      refine Nat.le_trans (length_mergeK kvs []) ?_
      rw [List.length_nil, Nat.zero_add]
      omega
    exact ⟨.ref h'.objs.size, upd H1 h'.objs.size (.dK (mergeK [] kvs)), I1.laid (t' := tk) kk (by omega) (show ObjOk X.prog X.w _ _ _ (.dK (mergeK [] kvs)) from ⟨hlen, hm, merged [] prs, KV.merge rel .nil, hd'⟩), rfl, q _ (I1.hok.fresh (by omega))⟩
/-! by data -/
variable {MA : DAx}
def mDictZip (MA : DAx) : DEx := fun δ μ P => MA δ μ fun as μ1 => ∃ (d1 d2 : PyData) (ks : List Key) (es : List PyData), as = [.dat d1, .dat d2] ∧ itemsD d1 = some (ks.map kD) ∧ itemsD d2 = some es ∧ ks.length = es.length ∧
  ∀ p, μ1 p = none → P (.mut p) (mset μ1 p (some (.dK (mergeA ((ks.zip es).map fun q => (q.1, .dat q.2))))))
theorem items_dp {K : PySem.W.Frag} {H H' : Hp} (e : Same H H') {v : V} {d : PyData} {ds : List PyData} (r : RelA K H v (.dat d)) (hd : itemsD d = some ds) : ∃ a xs, v = .ref a ∧ SqA K H' a xs ∧ DpAll K0 H xs ds := by
  cases d <;> simp only [itemsD, Option.some.injEq, reduceCtorEq] at hd <;> subst hd
  · obtain ⟨a, xs, rfl, h1, h2⟩ := dp_list r
    exact ⟨a, xs, rfl, .inl (.inl (rd_mono e h1)), h2⟩
  · obtain ⟨a, xs, rfl, h1, h2⟩ := dp_tuple r
    exact ⟨a, xs, rfl, .inr (.inl (rd_mono e h1)), h2⟩
theorem de_dictZip (hc : X.calm = true) (g1 : Gl X "dict") (m1 : X.mg "dict" = none) (g2 : Gl X "zip") (m2 : X.mg "zip" = none) (ha : DA X [a, b] ta MA)
    (he : starEach [.Call (.Name "zip" p2) [a, b] [] pos2] X.env = [(false, eval (.Call (.Name "zip" p2) [a, b] [] pos2) X.env)] := by rfl)
    (he2 : starEach [a, b] X.env = (false, eval a X.env) :: starEach [b] X.env := by rfl) (hpl : (backTo pos2 (starEach [b] X.env)).any (·.1) = false := by rfl) :
    DE X (.Call (.Name "dict" p) [.Call (.Name "zip" p2) [a, b] [] pos2] [] pos) (tDictZip X.K ta) (mDictZip MA) :=
  ⟨pe_dictZip hc g1 m1 g2 m2 ha.pa he he2 hpl, fun σ H Q δ μ P R hm m c =>
    ha.sa σ H _ δ μ _ R hm m fun vs H1 as μ1 e1 hm1 r1 ⟨d1, d2, ks, es, ea, hd1, hd2, hl, m1⟩ => by
      subst ea
      obtain ⟨v, u, rfl, rv, ru⟩ := relAs2 r1
      obtain ⟨x, xs, rfl, hx, dx⟩ := items_dp (hid_same H1 μ1) rv hd1
      obtain ⟨y, ys, rfl, hy, dy⟩ := items_dp (hid_same H1 μ1) ru hd2
      have ex := keys_dp dx
      have ly := dpAll_len dy
      subst ex
      refine ⟨x, y, ks.map kV, ys, ks.zip ys, rfl, hx, hy, by simp, fun i kv e => ?_, fun q nq => ?_⟩
      · obtain ⟨h1, h2⟩ := List.getElem?_zip_eq_some.mp e
        exact ⟨by rw [List.getElem?_map, h1]; rfl, h2⟩
      · have hp : hid H1 μ1 q = none := by rw [hid_none (hm1.ne nq)]; exact nq
        have pk : PK X.K (hid H1 μ1) (ks.zip ys) ((ks.zip es).map fun q => (q.1, AV.dat q.2)) := paired_of (by simp; omega) fun i kv q ek eq => by
          obtain ⟨h1, h2⟩ := List.getElem?_zip_eq_some.mp ek
          rw [List.getElem?_map] at eq
          cases ez : (ks.zip es)[i]? with
          | none => rw [ez] at eq; cases eq
          | some w =>
            rw [ez] at eq
            cases eq
            obtain ⟨g1, g2⟩ := List.getElem?_zip_eq_some.mp ez
            rw [h1] at g1
            refine ⟨Option.some.inj g1, ?_⟩
            obtain ⟨v, hv, rv⟩ := dpAll_get dy g2
            rw [h2] at hv
            cases hv
            exact rv
        refine c _ _ (.mut q) _ ?_ (hm1.storeK hp (pk_fold pk .nil)) rfl (m1 q (hm1.ne nq))
        rw [hid_store hp]
        exact e1⟩
end
end DL

set_option maxHeartbeats 4000000
/-! tuple * number -/
namespace DL
open PySem PySem.Spec PyProof.Rows L2 RZ
theorem tuple_mul1 (l : Addr) (items : Array Value) (n : Nat) (dd : Option Addr) (sl : Array (Option Value)) (u : Tok) :
    Meets (Builtin.«tuple.__mul__» ⟨[.ref l, .int 1 u], []⟩) (fun _ R s => s.heap.get? l = some { cls := .type "tuple", dict := dd, data := .seq items n, slots := sl } ∧
      R (.ok (.ret (Value.ref l))) s) :=
  .of_wp fun prog w A R s h => by
    obtain ⟨hp, g, d, tk, os⟩ := s
    obtain ⟨hl, h⟩ := h
    have f1 := AutoSeq1.idx_int
    wp_walk using wpAny_loadPart' hl
    exact ⟨_, rfl, h⟩
def rRepU (K : PySem.W.Frag) : R2 := fun x y H Q => ∃ l k xs, x = .ref l ∧ y = .int k ∧ SqT K H l xs ∧ xs ≠ [] ∧ k ≤ 1000 ∧ xs.length ≤ 1000 ∧ ((k = 1 ∧ Q (.ref l) H) ∨ (2 ≤ k ∧ ∀ p, H p = none → Q (.ref p) (upd H p (.tup (List.replicate k.toNat xs).flatten))))
section
variable {X : Cx}
theorem op_repU : OpR X (binaryOp .Mult) (rRepU X.K) := by
  intro pins s σ H x y v u Q I rx ry h
  obtain ⟨l, k, xs, rfl, rfl, hT, hne, h2, hz, h⟩ := h
  rcases h with ⟨rfl, q⟩ | ⟨h1, q⟩
  · cases rx
    obtain ⟨t, rfl⟩ := ry
    obtain ⟨its, r, ⟨⟨cls, dd, data, sl⟩, ho, hc, n, hd⟩, hs⟩ := I.tuple hT
    simp only at hc hd
    subst hc hd
    exact wpAny_binaryOp_repeat_ref (T := "tuple") (U := "int") (by decide) ⟨_, ho, rfl⟩ (fun s' => typeIs_int s' 1 t) noFill_tuple_mul F.fills_int_mul F.slot_int_rmul repeat_tuple F.slot_int_index.lookup
      (call_meets F.slot_int_rmul (typeIs_int s 1 t) F.entry_int_rmul (F.args_int_rmul_2 _ _) (int_rmul_tuple 1 t l its.toArray n dd sl)
        ⟨ho, rfl, ⟨_, ho, rfl⟩, call_meets F.slot_tuple_mul ⟨_, ho, rfl⟩ F.entry_tuple_mul (F.args_tuple_mul_2 _ _) (tuple_mul1 l its.toArray n dd sl t) ⟨ho, ⟨.ref l, H, I, rfl, q⟩⟩⟩)
  · exact op_repT pins s σ H _ _ v u Q I rx ry ⟨l, k, xs, rfl, rfl, hT, hne, h1, h2, hz, q⟩
end
section
variable {K : PySem.W.Frag}
def oRepU : DO2 := fun a b μ P => ∃ xs k, a = .dat (.tuple xs) ∧ b = .dat (.int k) ∧ xs ≠ [] ∧ 1 ≤ k ∧ k ≤ 1000 ∧ xs.length ≤ 1000 ∧ P (.dat (.tuple (List.replicate k.toNat xs).flatten)) μ
theorem dpAll_rep {H : Hp} {vs : List V} {ds : List PyData} (h : DpAll K0 H vs ds) : ∀ n : Nat, DpAll K0 H (List.replicate n vs).flatten (List.replicate n ds).flatten
  | 0 => .nil
  | n + 1 => by
    rw [List.replicate_succ, List.replicate_succ, List.flatten_cons, List.flatten_cons]
    exact dpAll_append h (dpAll_rep h n)
theorem so_repU : SO2 K (rRepU K) oRepU := fun x y H Q a b μ P hm rx ry ⟨xs, k, e1, e2, hne, h1, h2, hz, p⟩ c => by
  subst e1 e2
  have rx' := rx
  obtain ⟨p1, v1, rfl, g1, a1⟩ := dp_tuple rx
  have l1 := dpAll_len a1
  refine ⟨p1, k, v1, rfl, dp_int ry, .inl (rd_mono (hid_same H μ) g1), fun e => hne ?_, h2, by rw [l1]; exact hz, ?_⟩
  · subst e
    exact List.eq_nil_of_length_eq_zero (by simpa using l1.symm)
  · by_cases e : k = 1
    · subst e
      refine .inl ⟨rfl, c.here hm rx' ?_⟩
      simpa using p
    · exact .inr ⟨by omega, fun q n => c.new hm n (rel_tup hm n (dpAll_rep a1 _)) p⟩
end
end DL

set_option maxHeartbeats 4000000
/-! list(zip(a, b)) -/
namespace DL
open PySem PySem.Spec PyProof.Rows L2 RZ
theorem zip_no_len : typeLookup (.type "zip") "__len__" = pure none := by rw [typeLookup_type, builtinLookup_eq_fast]; kernel_rfl
theorem zip_no_hint : typeLookup (.type "zip") "__length_hint__" = pure none := by rw [typeLookup_type, builtinLookup_eq_fast]; kernel_rfl
section
variable {prog : Program} {w : World} {A : Around} {R : Result → Shared → Prop} {z TI TO i1 i2 : Addr} {fp1 fp2 : List Addr} {n1 n2 : Nat} {P1 P2 : Nat → Value → Prop} {St1 St2 : Nat → Heap → Prop}
theorem ne_ge {b z N : Nat} (h1 : N ≤ b) (h2 : z < N) : b ≠ z := by omega
/-- the zip at turn i -/
def ZSt (z TI TO i1 i2 : Addr) (St1 St2 : Nat → Heap → Prop) (S : Addr) (i : Nat) (h : Heap) : Prop :=
  IsTupOf2 h TI (.ref i1) (.ref i2) ∧ St1 i h ∧ St2 i h ∧ ((IsZip h z TI TO .none ∧ ∃ a b, IsTupOf2 h TO a b) ∨ ∃ T f oT, IsZipHeld h z TI TO T f ∧ h.get? T = some oT ∧ T ≠ z ∧ T ≠ i1 ∧ T ≠ i2 ∧ T ≠ S)
/-- what has been put into the list so far -/
def ZAcc (P1 P2 : Nat → Value → Prop) (N : Nat) (i : Nat) (acc : Array Value) (h : Heap) : Prop :=
  ∃ ps : List Addr, acc.toList = ps.map Value.ref ∧ ps.length = i ∧ ps.Nodup ∧ (∀ p ∈ ps, N ≤ p ∧ p < h.objs.size) ∧ ∀ j p, ps[j]? = some p → ∃ x y, IsTupOf2 h p x y ∧ P1 j x ∧ P2 j y
theorem ZAcc.keep {N i : Nat} {acc : Array Value} {h h' : Heap} (a : ZAcc P1 P2 N i acc h) (k : ∀ c o, N ≤ c → h.get? c = some o → h'.get? c = some o) : ZAcc P1 P2 N i acc h' := by
  obtain ⟨ps, e, l, nd, b, t⟩ := a
  refine ⟨ps, e, l, nd, fun p hp => ?_, fun j p hj => ?_⟩
  · obtain ⟨j, hj⟩ := List.getElem?_of_mem hp
    obtain ⟨x, y, g, _⟩ := t j p hj
    exact ⟨(b p hp).1, Heap.lt_size (k p _ (b p hp).1 g)⟩
  · obtain ⟨x, y, g, r⟩ := t j p hj
    exact ⟨x, y, k p _ (b p (List.mem_of_getElem? hj)).1 g, r⟩
theorem codeAny_extend_zip (Z : ZipSep2 z TI TO i1 i2 fp1 fp2) (D1 : ∀ A : Around, A.handled = none → Draws prog w A i1 fp1 n1 P1 St1) (D2 : ∀ A : Around, A.handled = none → Draws prog w A i2 fp2 n2 P2 St2)
    (hA : A.in1.handled = none) (hAA : A.in1.in1.handled = none) (hn : min n1 n2 ≤ sizeLine) (S : Addr) (N : Nat) (hS1 : S ∉ fp1) (hS2 : S ∉ fp2) (hSz : S ≠ z) (hSI : S ≠ TI) (hSO : S ≠ TO)
    (bz : z < N) (bO : TO < N) (b1 : i1 < N) (b2 : i2 < N) (bS : S < N) (res : Value) :
    ∀ (k i : Nat) (s : Shared) (acc : Array Value) (c : Nat), min n1 n2 - i = k → i ≤ min n1 n2 → N ≤ s.heap.objs.size → ZSt z TI TO i1 i2 St1 St2 S i s.heap → s.heap.get? S = some { cls := .type "list", dict := none, data := .seq acc c, slots := #[] } → ZAcc P1 P2 N i acc s.heap →
    (∀ h' tk acc' c', (∀ b o, b ≠ z → b ≠ TO → b ≠ i1 → b ≠ i2 → b ≠ S → s.heap.get? b = some o → h'.get? b = some o) → h'.get? S = some { cls := .type "list", dict := none, data := .seq acc' c', slots := #[] } → ZAcc P1 P2 N (min n1 n2) acc' h' → R (.ok (.ret res)) { s with heap := h', toks := tk }) →
    codeAny (model prog w) A (.builtin "list.extend.loop" ⟨[.ref S, .ref z, res], []⟩) R s := by
  have S1 : S ≠ i1 := fun e => hS1 (by rw [e]; exact Z.mem1)
  have S2 : S ≠ i2 := fun e => hS2 (by rw [e]; exact Z.mem2)
  intro k
  induction k with
  | zero =>
    intro i s acc c hk hi hN hst hS hacc hR
    obtain ⟨hTI, h1, h2, hz⟩ := hst
    refine codeAny_builtin F.entry_extend_loop ?_
    rw [Around.under_plainId F.plain_extend_loop _]
    show wpAny _ A.in1 (pyNext (.ref z) >>= _) _ _ s
    have ei : i = min n1 n2 := by omega
    rcases hz with ⟨hz, a, b, hTO⟩ | ⟨T, f, oT, hz, hT, r1, r2, r3, r4⟩
    · refine wpAny_bind (wpAny_pyNext_zipD2_end Z (D1 _ hAA) (D2 _ hAA) hz hTI hTO h1 h2 (by omega) (by omega) (by omega) fun h' tk hk => ?_)
      have e := hk S _ hSz hSO S1 S2 hS
      exact wpAny_pure (hR h' tk acc c (fun b o c1 c2 c3 c4 c5 g => hk b o c1 c2 c3 c4 g) e (by
        rw [← ei]
        exact hacc.keep fun b o hb g => hk b o (ne_ge hb bz) (ne_ge hb bO) (ne_ge hb b1) (ne_ge hb b2) g))
    · refine wpAny_bind (pyNext_held_end Z (D1 _ hAA) (D2 _ hAA) hz hT hTI h1 h2 (by omega) (by omega) (by omega) fun h' tk hk => ?_)
      have e := hk S _ hSz S1 S2 hS
      exact wpAny_pure (hR h' tk acc c (fun b o c1 c2 c3 c4 c5 g => hk b o c1 c3 c4 g) e (by
        rw [← ei]
        exact hacc.keep fun b o hb g => hk b o (ne_ge hb bz) (ne_ge hb b1) (ne_ge hb b2) g))
  | succ k ih =>
    intro i s acc c hk hi hN hst hS hacc hR
    obtain ⟨hTI, h1, h2, hz⟩ := hst
    have hi1 : i < n1 := by omega
    have hi2 : i < n2 := by omega
    refine codeAny_builtin F.entry_extend_loop ?_
    rw [Around.under_plainId F.plain_extend_loop _]
    have pS : s.heap.objs.size ≠ S := ne_ge hN bS
    have p1 : s.heap.objs.size ≠ i1 := ne_ge hN b1
    have p2 : s.heap.objs.size ≠ i2 := ne_ge hN b2
    have pz : s.heap.objs.size ≠ z := ne_ge hN bz
    have cont : ∀ (h' : Heap) (tk : Nat) (x1 x2 : Value), P1 i x1 → P2 i x2 → IsTupOf2 h' TI (.ref i1) (.ref i2) → St1 (i + 1) h' → St2 (i + 1) h' → (∃ T f oT, IsZipHeld h' z TI TO T f ∧ h'.get? T = some oT ∧ T ≠ z ∧ T ≠ i1 ∧ T ≠ i2 ∧ T ≠ S) → IsTupOf2 h' s.heap.objs.size x1 x2 →
        (∀ b o, b ≠ z → b ≠ TO → b ≠ i1 → b ≠ i2 → s.heap.get? b = some o → h'.get? b = some o) →
        wpAny (model prog w) A.in1 (updateSeq S (·.push (Value.ref s.heap.objs.size)) >>= fun _ => again (.builtin "list.extend.loop" ⟨[.ref S, .ref z, res], []⟩))
          (fun fin s' => match fin with | .done f => R (.ok f) s' | .again c' => c'.quiet = true ∧ codeAny (model prog w) A c' R s') (fun e s' => R (.error e) s') { s with heap := h', toks := tk } := fun h' tk x1 x2 q1 q2 gI g1 g2 ⟨T, f, oT, gz, gT, r1, r2, r3, r4⟩ gp hk => by
      have hS' : h'.get? S = some { cls := .type "list", dict := none, data := .seq acc c, slots := #[] } := hk S _ hSz hSO S1 S2 hS
      have hsz' : s.heap.objs.size < h'.objs.size := Heap.lt_size gp
      obtain ⟨ps, e, l, nd, bb, tt⟩ := hacc
      have lacc : acc.size = i := by
        have := congrArg List.length e
        rw [Array.length_toList, List.length_map] at this
        omega
      have upd_other : ∀ b, b ≠ S → ∀ o, h'.get? b = some o → (h'.update S (Obj.mapSeq (·.push (Value.ref s.heap.objs.size)))).get? b = some o := fun b hb o g => (Heap.get?_update_other _ _ (Ne.symm hb)).trans g
      have hSf := Heap.get?_update_self (Obj.mapSeq (·.push (Value.ref s.heap.objs.size))) hS' rfl
      refine wpAny_bind ?_
      refine wpAny_updateSeq hS' rfl (wpAny_pure ⟨plainId_quiet F.plain_extend_loop _, ih (i + 1) _ (acc.push (Value.ref s.heap.objs.size)) _ (by omega) (by omega) ?_ ⟨upd_other TI (Ne.symm hSI) _ gI, (D1 {} rfl).frame _ _ _ g1 fun b hb o g => upd_other b (fun x => hS1 (by rw [← x]; exact hb)) o g, (D2 {} rfl).frame _ _ _ g2 fun b hb o g => upd_other b (fun x => hS2 (by rw [← x]; exact hb)) o g, .inr ⟨T, f, oT, upd_other z (Ne.symm hSz) _ gz, upd_other T r4 _ gT, r1, r2, r3, r4⟩⟩ hSf ?_ fun h'' tk' acc' c' hm hS'' hacc' => ?_⟩)
        (by rw [lacc]; omega) (by show (acc.push _).size ≤ sizeLine + 1; rw [Array.size_push, lacc]; omega)
      · show N ≤ (h'.update S _).objs.size
        rw [Heap.size_update]
        omega
      · refine ⟨ps ++ [s.heap.objs.size], by rw [Array.toList_push, e, List.map_append]; rfl, by simp [l], ?_, fun p hp => ?_, fun j p hj => ?_⟩
        · rw [List.nodup_append]
          refine ⟨nd, by simp, fun a ha b hb => ?_⟩
          rw [List.mem_singleton.mp hb]
          exact Nat.ne_of_lt (bb a ha).2
        · show N ≤ p ∧ p < (h'.update S _).objs.size
          rw [Heap.size_update]
          rcases List.mem_append.mp hp with g | g
          · exact ⟨(bb p g).1, Nat.lt_trans (bb p g).2 hsz'⟩
          · rw [List.mem_singleton.mp g]
            exact ⟨hN, hsz'⟩
        · show ∃ x y, IsTupOf2 (h'.update S _) p x y ∧ _
          by_cases hj2 : j < ps.length
          · rw [List.getElem?_append_left hj2] at hj
            obtain ⟨x, y, t1, t2⟩ := tt j p hj
            have hp := bb p (List.mem_of_getElem? hj)
            exact ⟨x, y, upd_other p (ne_ge hp.1 bS) _ (hk p _ (ne_ge hp.1 bz) (ne_ge hp.1 bO) (ne_ge hp.1 b1) (ne_ge hp.1 b2) t1), t2⟩
          · rw [List.getElem?_append_right (by omega)] at hj
            have e0 : j - ps.length = 0 := by
              have := (List.getElem?_eq_some_iff.mp hj).1
              simp at this
              omega
            rw [e0] at hj
            cases hj
            have ej : j = i := by omega
            subst ej
            exact ⟨x1, x2, upd_other _ pS _ gp, q1, q2⟩
      · refine hR h'' tk' acc' c' (fun b o c1 c2 c3 c4 c5 g => hm b o c1 c2 c3 c4 c5 (upd_other b c5 o (hk b o c1 c2 c3 c4 g))) hS'' hacc'
    show wpAny _ A.in1 (pyNext (.ref z) >>= _) _ _ s
    rcases hz with ⟨hz, a, b, hTO⟩ | ⟨T, f, oT, hz, hT, r1, r2, r3, r4⟩
    · refine wpAny_bind (wpAny_pyNext_zipD2_item Z (D1 _ hAA) (D2 _ hAA) hz hTI hTO h1 h2 hi1 hi2 fun x1 x2 h' tk y1 y2 c1 c2 d1 d2 c5 c6 hk => ?_)
      exact cont h' tk x1 x2 y1 y2 (hk _ _ Z.TIz Z.TITO Z.TIi1 Z.TIi2 hTI) d1 d2 ⟨s.heap.objs.size, false, _, c1, c5, pz, p1, p2, pS⟩ c5 hk
    · refine wpAny_bind (pyNext_held_item Z (D1 _ hAA) (D2 _ hAA) hz hT hTI h1 h2 hi1 hi2 fun x1 x2 h' tk y1 y2 a1 a3 a4 a5 hk => ?_)
      exact cont h' tk x1 x2 y1 y2 (hk _ _ Z.TIz Z.TIi1 Z.TIi2 hTI) a3 a4 ⟨T, true, oT, a1, hk _ _ r1 r2 r3 hT, r1, r2, r3, r4⟩ a5 fun b o g1 _ g3 g4 g => hk b o g1 g3 g4 g
theorem extend_zip {s : Shared} (Z : ZipSep2 z TI TO i1 i2 fp1 fp2) (D1 : ∀ A : Around, A.handled = none → Draws prog w A i1 fp1 n1 P1 St1) (D2 : ∀ A : Around, A.handled = none → Draws prog w A i2 fp2 n2 P2 St2)
    (hA : A.in1.handled = none) (hAA : A.in1.in1.handled = none) (hn : min n1 n2 ≤ sizeLine) (S : Addr) (hS1 : S ∉ fp1) (hS2 : S ∉ fp2) (hSz : S ≠ z) (hSI : S ≠ TI) (hSO : S ≠ TO) (c₀ : Nat)
    (bz : z < s.heap.objs.size) (bO : TO < s.heap.objs.size) (b1 : i1 < s.heap.objs.size) (b2 : i2 < s.heap.objs.size) (bS : S < s.heap.objs.size) (res : Value)
    (hz : IsZip s.heap z TI TO .none) (hTI : IsTupOf2 s.heap TI (.ref i1) (.ref i2)) (hTO : ∃ a b, IsTupOf2 s.heap TO a b) (h1 : St1 0 s.heap) (h2 : St2 0 s.heap) (hS : s.heap.get? S = some { cls := .type "list", data := .seq #[] c₀ })
    (hR : ∀ h' tk acc' c', (∀ b o, b ≠ z → b ≠ TO → b ≠ i1 → b ≠ i2 → b ≠ S → s.heap.get? b = some o → h'.get? b = some o) → h'.get? S = some { cls := .type "list", dict := none, data := .seq acc' c', slots := #[] } → ZAcc P1 P2 s.heap.objs.size (min n1 n2) acc' h' → R (.ok (.ret res)) { s with heap := h', toks := tk }) :
    wpAny (model prog w) A.in1 (Builtin.List.listExtendWith (.ref S) (.ref z) res)
      (fun fin s' => match fin with | .done f => R (.ok f) s' | .again c' => c'.quiet = true ∧ codeAny (model prog w) A c' R s') (fun e s' => R (.error e) s') s := by
  have S1 : S ≠ i1 := fun e => hS1 (by rw [e]; exact Z.mem1)
  have S2 : S ≠ i2 := fun e => hS2 (by rw [e]; exact Z.mem2)
  have hT : s.TypeIs (.ref z) "zip" := ⟨_, hz, rfl⟩
  unfold Builtin.List.listExtendWith
  refine wpAny_bind (wpAny_typeOf hT ?_)
  have e1 : Builtin.List.listSameRef (.ref S) (.ref z) = false := by simp [Builtin.List.listSameRef, hSz]
  have e2 : (Value.type "zip" == Value.type "list") = false := by decide
  have e3 : (Value.type "zip" == Value.type "tuple") = false := by decide
  simp only [e1, e2, e3, Bool.or_false, Bool.false_eq_true, if_false]
  refine wpAny_bind (wpAny_pyIter_zip hz ?_)
  refine wpAny_bind (wpAny_holding ?_)
  unfold Builtin.List.listLengthHint
  refine wpAny_bind (wpAny_specialOf hT zip_no_len ?_)
  show wpAny _ A.in1 (specialOf (Value.ref z) (Str.ofString "__length_hint__") >>= _) _ _ _
  refine wpAny_bind (wpAny_specialOf hT zip_no_hint ?_)
  refine wpAny_pure ?_
  show wpAny _ A.in1 (rule "list.extend.makes-room" >>= fun _ => Builtin.List.listTouch (.ref S) >>= fun _ =>
    again (.builtin "list.extend.loop" ⟨[.ref S, .ref z, res], []⟩)) _ _ _
  refine wpAny_bind (wpAny_rule ?_)
  refine wpAny_bind ?_
  show wpAny _ A.in1 (updateSeq S (·.push .none) >>= fun _ => updateSeq S (·.pop)) _ _ _
  refine wpAny_bind (wpAny_updateSeq hS rfl ?_)
  have hS₂ := Heap.get?_update_self (Obj.mapSeq (·.push Value.none)) hS rfl
  refine wpAny_updateSeq (hz := by seq_fits) hS₂ rfl ?_
  have hS₃ := Heap.get?_update_self (Obj.mapSeq (·.pop)) hS₂ rfl
  have oth : ∀ b o, b ≠ S → s.heap.get? b = some o → ((s.heap.update S (Obj.mapSeq (·.push Value.none))).update S (Obj.mapSeq (·.pop))).get? b = some o :=
    fun b o hb e => (Heap.get?_update_other _ _ (Ne.symm hb)).trans ((Heap.get?_update_other _ _ (Ne.symm hb)).trans e)
  have sz : ((s.heap.update S (Obj.mapSeq (·.push Value.none))).update S (Obj.mapSeq (·.pop))).objs.size = s.heap.objs.size := by rw [Heap.size_update, Heap.size_update]
  obtain ⟨a, b, hTO⟩ := hTO
  refine wpAny_pure ⟨plainId_quiet F.plain_extend_loop _, codeAny_extend_zip Z D1 D2 hA hAA hn S s.heap.objs.size hS1 hS2 hSz hSI hSO bz bO b1 b2 bS res _ 0 _ _ _ rfl (Nat.zero_le _) (Nat.le_of_eq sz.symm)
    ⟨oth TI _ (Ne.symm hSI) hTI, (D1 {} rfl).frame _ _ _ h1 fun b hb o g => oth b o (fun x => hS1 (by rw [← x]; exact hb)) g, (D2 {} rfl).frame _ _ _ h2 fun b hb o g => oth b o (fun x => hS2 (by rw [← x]; exact hb)) g, .inl ⟨oth z _ (Ne.symm hSz) hz, a, b, oth TO _ (Ne.symm hSO) hTO⟩⟩
    hS₃ ⟨[], rfl, rfl, List.nodup_nil, fun p hp => (nomatch hp), fun j p hp => (nomatch hp)⟩ fun h' tk acc' c' hm hS' hacc => ?_⟩
  exact hR h' tk acc' c' (fun b o g1 g2 g3 g4 g5 g => hm b o g1 g2 g3 g4 g5 (oth b o g5 g)) hS' hacc
end
section
variable {prog : Program} {w : World} {A : Around} {E : Value → Shared → Prop} {s : Shared} {z TI TO i1 i2 : Addr} {fp1 fp2 : List Addr} {n1 n2 : Nat} {P1 P2 : Nat → Value → Prop} {St1 St2 : Nat → Heap → Prop}
theorem call_list_zip {Q : Value → Shared → Prop} (Z : ZipSep2 z TI TO i1 i2 fp1 fp2) (D1 : ∀ A : Around, A.handled = none → Draws prog w A i1 fp1 n1 P1 St1) (D2 : ∀ A : Around, A.handled = none → Draws prog w A i2 fp2 n2 P2 St2)
    (hA : A.handled = none) (hn : min n1 n2 ≤ sizeLine) (f1 : ∀ b ∈ fp1, b < s.heap.objs.size) (f2 : ∀ b ∈ fp2, b < s.heap.objs.size)
    (hz : IsZip s.heap z TI TO .none) (hTI : IsTupOf2 s.heap TI (.ref i1) (.ref i2)) (hTO : ∃ a b, IsTupOf2 s.heap TO a b) (h1 : St1 0 s.heap) (h2 : St2 0 s.heap)
    (hQ : ∀ h' tk acc' c', (∀ b o, b ≠ z → b ≠ TO → b ≠ i1 → b ≠ i2 → s.heap.get? b = some o → h'.get? b = some o) → h'.get? s.heap.objs.size = some { cls := .type "list", dict := none, data := .seq acc' c', slots := #[] } → ZAcc P1 P2 (s.heap.objs.size + 1) (min n1 n2) acc' h' → Q (.ref s.heap.objs.size) { s with heap := h', toks := tk }) :
    wpAny (model prog w) A (call (.type "list") [.ref z]) Q E s := by
  have lt : ∀ {c o}, s.heap.get? c = some o → s.heap.objs.size ≠ c := fun e => Nat.ne_of_gt (Heap.lt_size e)
  have lz : z < s.heap.objs.size := Heap.lt_size hz
  have lI : TI < s.heap.objs.size := Heap.lt_size hTI
  obtain ⟨a, b, hTO⟩ := hTO
  have lO : TO < s.heap.objs.size := Heap.lt_size hTO
  have n1' : s.heap.objs.size ∉ fp1 := fun hm => Nat.lt_irrefl _ (f1 _ hm)
  have n2' : s.heap.objs.size ∉ fp2 := fun hm => Nat.lt_irrefl _ (f2 _ hm)
  refine callType_codes (Q₁ := fun obj s₁ => obj = .ref s.heap.objs.size ∧ s₁ = { s with heap := s.heap.push { cls := .type "list", data := .seq #[] } }) F.called_list (F.typeCall_list_1 _) F.entry_list_init
    (code_list_new _ ⟨rfl, rfl⟩) fun obj s₁ h₁ => ?_
  obtain ⟨rfl, rfl⟩ := h₁
  have hS : (s.heap.push { cls := .type "list", data := .seq #[] }).get? s.heap.objs.size = some { cls := .type "list", data := .seq #[] } := Heap.get?_push_size _ rfl
  have kp : ∀ b o, s.heap.get? b = some o → (s.heap.push { cls := .type "list", data := .seq #[] }).get? b = some o := fun b o e => Heap.get?_push_of_some _ e
  refine ⟨⟨_, hS, rfl⟩, F.args_list_init_2 _ _, ?_⟩
  show wpAny _ A.in1.in1 (do let old ← Builtin.List.listItems (.ref s.heap.objs.size); Builtin.List.listUpdate (.ref s.heap.objs.size) (fun _ => #[]); letGo old.toList.reverse; Builtin.List.listExtendWith (.ref s.heap.objs.size) (.ref z) .none) _ _ _
  refine wpAny_bind ?_
  unfold Builtin.List.listItems
  refine wpAny_bind (wpAny_seqItems hS rfl (wpAny_pure ?_))
  show wpAny _ A.in1.in1 (updateSeq s.heap.objs.size (fun _ => #[]) >>= fun _ => letGo (#[] : Array Value).toList.reverse >>= fun _ => Builtin.List.listExtendWith (.ref s.heap.objs.size) (.ref z) .none) _ _ _
  refine wpAny_bind (wpAny_updateSeq hS rfl ?_)
  have hS₂ := Heap.get?_update_self (Obj.mapSeq (fun _ => (#[] : Array Value))) hS rfl
  have oth : ∀ b o, s.heap.get? b = some o → ((s.heap.push { cls := .type "list", data := .seq #[] }).update s.heap.objs.size (Obj.mapSeq (fun _ => (#[] : Array Value)))).get? b = some o :=
    fun b o e => (Heap.get?_update_other _ _ (lt e)).trans (kp b o e)
  have sz : ((s.heap.push { cls := .type "list", data := .seq #[] }).update s.heap.objs.size (Obj.mapSeq (fun _ => (#[] : Array Value)))).objs.size = s.heap.objs.size + 1 := by rw [Heap.size_update, Heap.size_push]
  have up : ∀ {x : Addr}, x < s.heap.objs.size → x < ((s.heap.push { cls := .type "list", data := .seq #[] }).update s.heap.objs.size (Obj.mapSeq (fun _ => (#[] : Array Value)))).objs.size := fun {x} h => by rw [sz]; exact Nat.lt_succ_of_lt h
  refine wpAny_bind (wpAny_letGo ?_)
  refine extend_zip Z D1 D2 (by exact hA) (by exact hA) hn _ n1' n2' (Nat.ne_of_gt lz) (Nat.ne_of_gt lI) (Nat.ne_of_gt lO) _ (up lz) (up lO) (up (f1 _ Z.mem1)) (up (f2 _ Z.mem2)) (by rw [sz]; exact Nat.lt_succ_self _) .none (oth _ _ hz) (oth _ _ hTI) ⟨a, b, oth _ _ hTO⟩ ((D1 {} rfl).frame _ _ _ h1 fun b _ o g => oth b o g) ((D2 {} rfl).frame _ _ _ h2 fun b _ o g => oth b o g) hS₂ fun h' tk acc' c' hm hS' hacc => ?_
  refine ⟨rfl, hQ h' tk acc' c' (fun b o g1 g2 g3 g4 g => hm b o g1 g2 g3 g4 (fun x => lt g x.symm) (oth b o g)) hS' ?_⟩
  rw [← sz]
  exact hacc
end
end DL

set_option maxHeartbeats 4000000
namespace DL
open PySem PySem.Spec PyProof.Rows L2 RZ
def layAll (H : Hp) (l : List (Addr × HO)) : Hp := l.foldl (fun H q => upd H q.1 q.2) H
theorem layAll_app {H : Hp} {l m : List (Addr × HO)} : layAll H (l ++ m) = layAll (layAll H l) m := List.foldl_append
section
variable {X : Cx} {pins : List (Addr × Obj)} {σ : L2.St}
theorem lay_many {h' : Heap} {t' : Nat} : ∀ (l : List (Addr × HO)) {H : Hp} {s : Shared}, Inv X pins σ H s → (∀ b u, s.heap.get? b = some u → h'.get? b = some u) → (l.map (·.1)).Nodup → (∀ q ∈ l, s.heap.get? q.1 = none ∧ H q.1 = none) →
    (∀ q ∈ l, ∀ (H' : Hp) (G : Heap), G.get? q.1 = h'.get? q.1 → ObjOk X.prog X.w H' G q.1 q.2) → Inv X pins σ (layAll H l) { s with heap := h', toks := t' }
  | [], H, s, I, k, _, _, _ => I.kept k
  | q :: l, H, s, I, k, nd, fr, ok => by
    rw [List.map_cons, List.nodup_cons] at nd
    obtain ⟨G, g1, g2⟩ := L2.restrict h' fun b => (s.heap.get? b).isSome || decide (b = q.1)
    have gk : ∀ b u, s.heap.get? b = some u → G.get? b = some u := fun b u e => by
      rw [g1 b (by rw [e]; rfl)]
      exact k b u e
    have gq : G.get? q.1 = h'.get? q.1 := g1 _ (by simp)
    have gs : ∀ b u, G.get? b = some u → h'.get? b = some u := fun b u e => by
      cases hp : ((s.heap.get? b).isSome || decide (b = q.1)) with
      | true => rw [← g1 b hp]; exact e
      | false => rw [g2 b hp] at e; cases e
    have I' : Inv X pins σ (upd H q.1 q.2) { s with heap := G, toks := t' } := I.laidN gk (fr q List.mem_cons_self).1 (fr q List.mem_cons_self).2 (ok q List.mem_cons_self _ _ gq)
    refine (lay_many (s := { s with heap := G, toks := t' }) (H := upd H q.1 q.2) l I' gs nd.2 (fun r hr => ?_) fun r hr => ok r (List.mem_cons_of_mem _ hr) :)
    have ne : r.1 ≠ q.1 := fun e => nd.1 (List.mem_map.mpr ⟨r, hr, e⟩)
    have f := fr r (List.mem_cons_of_mem _ hr)
    exact ⟨g2 r.1 (by rw [f.1, decide_eq_false ne]; rfl), by rw [upd_ne ne]; exact f.2⟩
def pairL (xs ys : List V) : List HO := List.zipWith (fun x y => HO.tup [x, y]) xs ys
def layZ (H : Hp) (ps : List Addr) (p : Addr) (xs ys : List V) : Hp := layAll H (ps.zip (pairL xs ys) ++ [(p, .lst (ps.map V.ref))])
def rListZip (K : PySem.W.Frag) : List V → Hp → VK → Prop := fun vs H Q => ∃ (a b : Addr) (xs ys : List V), vs = [.ref a, .ref b] ∧ SqA K H a xs ∧ SqA K H b ys ∧
  ∀ (ps : List Addr) (p : Addr), ps.Nodup → p ∉ ps → H p = none → (∀ q ∈ ps, H q = none) → ps.length = min xs.length ys.length → Q (.ref p) (layZ H ps p xs ys)
def tListZip (K : PySem.W.Frag) (ta : TA) : TE := fun σ H Q => ta σ H fun vs H1 => rListZip K vs H1 Q
variable {a b : Expr} {ta : TA} {pos pos2 p p2 : Pos}
theorem vals_refs : ∀ bs : List Addr, Vals (bs.map V.ref) (bs.map Value.ref)
  | [] => .nil
  | _ :: r => .cons rfl (vals_refs r)
theorem none_of_ge {h : Heap} {c : Addr} (e : h.objs.size ≤ c) : h.get? c = none := by
  cases g : h.get? c with
  | none => rfl
  | some o => exact absurd (Heap.lt_size g) (Nat.not_lt.mpr e)
theorem pe_listZip (hc : X.calm = true) (g1 : Gl X "list") (m1 : X.mg "list" = none) (g2 : Gl X "zip") (m2 : X.mg "zip" = none) (ha : PA X [a, b] ta)
    (he : starEach [.Call (.Name "zip" p2) [a, b] [] pos2] X.env = [(false, eval (.Call (.Name "zip" p2) [a, b] [] pos2) X.env)] := by rfl)
    (he2 : starEach [a, b] X.env = (false, eval a X.env) :: starEach [b] X.env := by rfl) (hpl : (backTo pos2 (starEach [b] X.env)).any (·.1) = false := by rfl) :
    PE X (.Call (.Name "list" p) [.Call (.Name "zip" p2) [a, b] [] pos2] [] pos) (tListZip X.K ta) := by
  refine ⟨fun pins s σ H Q I h => ?_⟩
  refine wpAny_Call_Name_kw (ld_blt I g1 m1 PyProof.Rows.boot_list ?_ (by decide) (by decide))
  refine PyProof.Rows.callWith_type1 ?_ he rfl
  rw [he]
  show wpAny _ _ (spliced ((false, eval (.Call (.Name "zip" p2) [a, b] [] pos2) X.env) :: [])) _ _ s
  refine Calls.spliced_cons ?_
  refine wpAny_Call_Name_kw (ld_blt I g2 m2 PyProof.Rows.boot_zip ?_ (by decide) (by decide))
  refine PyProof.Rows.callWith_type1 (thn (ha.run pos2 pins s σ H _ I h) fun us s1 ⟨vs, H1, I1, r1, q1⟩ => ?_) he2 hpl
  obtain ⟨x, y, xs, ys, ev, hx, hy, q⟩ := q1
  subst ev
  have eu : us = [Value.ref x, Value.ref y] := by
    cases r1 with
    | cons r rr =>
      cases rr with
      | cons r' rr =>
        cases rr
        cases r
        cases r'
        rfl
  subst eu
  obtain ⟨its, o1, H1c, rv1, lx, z1, B1, hc1, mk1⟩ := seq_iter I1 hx
  obtain ⟨its2, o2, H2c, rv2, ly, z2, B2, hc2, mk2⟩ := seq_iter I1 hy
  refine zip_begins2 B1 B2 hc1 hc2 fun h' hz hTI hTO e1 e2 hsz hk => ?_
  obtain ⟨N, hN⟩ : ∃ N, N = s1.heap.objs.size := ⟨_, rfl⟩
  obtain ⟨St1, D1, i1, L1⟩ := mk1 s1.heap.objs.size (Nat.ne_of_lt lx)
  obtain ⟨St2, D2, i2, L2'⟩ := mk2 (s1.heap.objs.size + 1) (Nat.ne_of_lt (Nat.lt_succ_of_lt ly))
  refine Calls.spliced_nil ?_
  have S : ZipSep2 (s1.heap.objs.size + 4) (s1.heap.objs.size + 2) (s1.heap.objs.size + 3) s1.heap.objs.size (s1.heap.objs.size + 1) [s1.heap.objs.size, x] [s1.heap.objs.size + 1, y] := by
    rw [← hN] at lx ly ⊢
    constructor <;> simp <;> first | exact ne_addr lx 4 | exact ne_addr lx 3 | exact ne_addr lx 1 | exact ne_addr ly 4 | exact ne_addr ly 3 | exact ne_addr ly 0
  have l1 := rv1.length
  have l2 := rv2.length
  refine call_list_zip S D1 D2 (I1.ok.hd hc) (by omega) (fun b hb => ?_) (fun b hb => ?_) hz hTI ⟨_, _, hTO⟩ (i1 h' e1 hk) (i2 h' e2 hk) fun h'' tk acc' c' hm hS hacc => ?_
  · simp only [List.mem_cons, List.not_mem_nil, or_false] at hb
    rw [hsz]
    rcases hb with z | z
    · rw [z]; exact Nat.lt_add_of_pos_right (by decide)
    · rw [z]; exact Nat.lt_of_lt_of_le lx (Nat.le_add_right _ _)
  · simp only [List.mem_cons, List.not_mem_nil, or_false] at hb
    rw [hsz]
    rcases hb with z | z
    · rw [z]; exact Nat.add_lt_add_left (by decide) _
    · rw [z]; exact Nat.lt_of_lt_of_le ly (Nat.le_add_right _ _)
  · obtain ⟨ps, ea, el, nd, bb, tt⟩ := hacc
    have ge : ∀ q ∈ ps, s1.heap.objs.size ≤ q := fun q hq => Nat.le_trans (Nat.le_trans (Nat.le_add_right _ 5) (Nat.le_of_eq hsz.symm)) (Nat.le_trans (Nat.le_succ _) (bb q hq).1)
    have geS : s1.heap.objs.size ≤ h'.objs.size := by rw [hsz]; exact Nat.le_add_right _ _
    have nS : h'.objs.size ∉ ps := fun hm => Nat.lt_irrefl _ (bb _ hm).1
    have kk : ∀ c o, s1.heap.get? c = some o → h''.get? c = some o := fun c o e => by
      have hlt := Heap.lt_size e
      exact hm c o (fun z => ne_addr hlt 4 z.symm) (fun z => ne_addr hlt 3 z.symm) (fun z => ne_addr hlt 0 z.symm) (fun z => ne_addr hlt 1 z.symm) (hk c o e)
    have zl : (pairL xs ys).length = ps.length := by unfold pairL; rw [List.length_zipWith, el]; omega
    refine ⟨.ref h'.objs.size, layZ H1 ps h'.objs.size xs ys, (lay_many (s := s1) (H := H1) _ I1 kk ?_ (fun r hr => ?_) (fun r hr H' G hg => ?_) :), rfl, q ps h'.objs.size nd nS (I1.hok.fresh geS) (fun r hr => I1.hok.fresh (ge r hr)) (by omega)⟩
    · rw [List.map_append, List.map_fst_zip (by omega)]
      rw [List.nodup_append]
      exact ⟨nd, by simp, fun a ha b hb => by
        simp at hb
        rw [hb]
        exact fun z => nS (by rw [← z]; exact ha)⟩
    · rcases List.mem_append.mp hr with g | g
      · have g' : r.1 ∈ ps := (List.of_mem_zip (a := r.1) (b := r.2) g).1
        exact ⟨none_of_ge (ge _ g'), I1.hok.fresh (ge _ g')⟩
      · rw [List.mem_singleton.mp g]
        exact ⟨none_of_ge geS, I1.hok.fresh geS⟩
    · rcases List.mem_append.mp hr with g | g
      · obtain ⟨j, hj⟩ := List.getElem?_of_mem g
        obtain ⟨j1, j2⟩ := List.getElem?_zip_eq_some.mp hj
        obtain ⟨v1, v2, t1, t2, t3⟩ := tt j r.1 j1
        unfold pairL at j2
        rw [List.getElem?_zipWith] at j2
        cases ex : xs[j]? with
        | none => rw [ex] at j2; cases j2
        | some x0 =>
          cases ey : ys[j]? with
          | none => rw [ex, ey] at j2; cases j2
          | some y0 =>
            rw [ex, ey] at j2
            have er : r.2 = .tup [x0, y0] := (Option.some.inj j2).symm
            rw [er]
            obtain ⟨u1, hu1, ru1⟩ := Vals.get rv1 ex
            obtain ⟨u2, hu2, ru2⟩ := Vals.get rv2 ey
            rw [t2] at hu1
            rw [t3] at hu2
            cases hu1
            cases hu2
            have hsl : sizeLine = 16777216 := sizeLine_eq
            refine ⟨by show 2 ≤ sizeLine; omega, [v1, v2], .cons ru1 (.cons ru2 .nil), ?_⟩
            exact ⟨_, hg.trans t1, rfl, _, rfl⟩
      · rw [List.mem_singleton.mp g] at hg ⊢
        have ea' : acc' = (ps.map Value.ref).toArray := by rw [← ea]
        refine ⟨by rw [List.length_map]; omega, ps.map Value.ref, c', vals_refs ps, ?_⟩
        rw [hg]
        rw [ea'] at hS
        exact hS
/-! by data -/
theorem lay_pairs {K : PySem.W.Frag} {μ : Mu} : ∀ (ps : List Addr) {H : Hp} {xs ys : List V} {ds es : List PyData}, HM K H μ → DpAll K0 (hid H μ) xs ds → DpAll K0 (hid H μ) ys es → ps.Nodup → (∀ q ∈ ps, H q = none) → ps.length = min xs.length ys.length →
    HM K (layAll H (ps.zip (pairL xs ys))) μ ∧ Same (hid H μ) (hid (layAll H (ps.zip (pairL xs ys))) μ) ∧ DpAll K0 (hid (layAll H (ps.zip (pairL xs ys))) μ) (ps.map V.ref) (zipD ds es) ∧ ∀ c, c ∉ ps → layAll H (ps.zip (pairL xs ys)) c = H c
  | [], H, xs, ys, ds, es, hm, r1, r2, _, _, hl => by
    refine ⟨hm, Same.refl _, ?_, fun _ _ => rfl⟩
    cases r1 with
    | nil => exact .nil
    | cons _ _ =>
      cases r2 with
      | nil => exact .nil
      | cons _ _ => simp at hl
  | q :: ps, H, xs, ys, ds, es, hm, r1, r2, nd, fr, hl => by
    cases r1 with
    | nil => simp at hl
    | @cons x xs d ds a1 r1 =>
      cases r2 with
      | nil => simp at hl
      | @cons y ys e es a2 r2 =>
        rw [List.nodup_cons] at nd
        have n := fr q List.mem_cons_self
        have hm' := hm.new n (.tup [x, y])
        have sm := hid_new hm n (.tup [x, y])
        have fr' : ∀ c ∈ ps, upd H q (.tup [x, y]) c = none := fun c hc => by
          rw [upd_ne fun z => nd.1 (by rw [← z]; exact hc)]
          exact fr c (List.mem_cons_of_mem _ hc)
        obtain ⟨h1, h2, h3, h4⟩ := lay_pairs ps hm' (dpAll_mono sm r1) (dpAll_mono sm r2) nd.2 fr' (by simp at hl; omega)
        have rt : Dp K0 (hid (upd H q (.tup [x, y])) μ) (.ref q) (.tuple [d, e]) := (rel_tup hm n (.cons a1 (.cons a2 .nil)) : RelA K _ (.ref q) (.dat (.tuple [d, e])))
        refine ⟨h1, sm.trans h2, .cons (dp_mono h2 rt) h3, fun c hc => ?_⟩
        rw [List.mem_cons, not_or] at hc
        show layAll (upd H q (.tup [x, y])) (ps.zip (pairL xs ys)) c = H c
        rw [h4 c hc.2, upd_ne hc.1]
variable {MA : DAx}
def mListZip (MA : DAx) : DEx := fun δ μ P => MA δ μ fun as μ1 => ∃ (d1 d2 : PyData) (xs ys : List PyData), as = [.dat d1, .dat d2] ∧ itemsD d1 = some xs ∧ itemsD d2 = some ys ∧ P (.dat (.list (zipD xs ys))) μ1
theorem de_listZip (hc : X.calm = true) (g1 : Gl X "list") (m1 : X.mg "list" = none) (g2 : Gl X "zip") (m2 : X.mg "zip" = none) (ha : DA X [a, b] ta MA)
    (he : starEach [.Call (.Name "zip" p2) [a, b] [] pos2] X.env = [(false, eval (.Call (.Name "zip" p2) [a, b] [] pos2) X.env)] := by rfl)
    (he2 : starEach [a, b] X.env = (false, eval a X.env) :: starEach [b] X.env := by rfl) (hpl : (backTo pos2 (starEach [b] X.env)).any (·.1) = false := by rfl) :
    DE X (.Call (.Name "list" p) [.Call (.Name "zip" p2) [a, b] [] pos2] [] pos) (tListZip X.K ta) (mListZip MA) :=
  ⟨pe_listZip hc g1 m1 g2 m2 ha.pa he he2 hpl, fun σ H Q δ μ P R hm m c =>
    ha.sa σ H _ δ μ _ R hm m fun vs H1 as μ1 e1 hm1 r1 ⟨d1, d2, xs, ys, ea, hd1, hd2, m1⟩ => by
      subst ea
      obtain ⟨v, u, rfl, rv, ru⟩ := relAs2 r1
      obtain ⟨x, xv, rfl, hx, dx⟩ := items_dp (hid_same H1 μ1) rv hd1
      obtain ⟨y, yv, rfl, hy, dy⟩ := items_dp (hid_same H1 μ1) ru hd2
      refine ⟨x, y, xv, yv, rfl, hx, hy, fun ps q nd nq hq frs hl => ?_⟩
      obtain ⟨h1, h2, h3, h4⟩ := lay_pairs ps hm1 dx dy nd frs hl
      have nq' : layAll H1 (ps.zip (pairL xv yv)) q = none := by rw [h4 q nq]; exact hq
      have el : layZ H1 ps q xv yv = upd (layAll H1 (ps.zip (pairL xv yv))) q (.lst (ps.map V.ref)) := by
        unfold layZ
        rw [layAll_app]
        rfl
      rw [el]
      exact c _ _ (.dat (.list (zipD xs ys))) μ1 ((e1.trans h2).trans (hid_new h1 nq' _)) (h1.new nq' _) (rel_lst h1 nq' h3) m1⟩
end
end DL

set_option maxHeartbeats 4000000
/-! calls by names alone, the names picked in another order -/
namespace DL
open PySem PySem.Spec PyProof.Rows L2 RZ
def pick {α : Type} (is : List Nat) (l : List α) : List α := is.filterMap fun i => l[i]?
theorem vals_none {xs : List V} {us : List Value} (h : Vals xs us) {i : Nat} (e : xs[i]? = none) : us[i]? = none := by
  have := h.length
  rw [List.getElem?_eq_none_iff] at e ⊢
  omega
theorem vals_pick {xs : List V} {us : List Value} (h : Vals xs us) : ∀ is : List Nat, Vals (pick is xs) (pick is us)
  | [] => .nil
  | i :: is => by
    unfold pick
    rw [List.filterMap_cons, List.filterMap_cons]
    cases e : xs[i]? with
    | none => rw [vals_none h e]; exact vals_pick h is
    | some x =>
      obtain ⟨u, hu, r⟩ := Vals.get h e
      rw [hu]
      exact .cons r (vals_pick h is)
theorem relAs_get {K : PySem.W.Frag} {H : Hp} : ∀ {vs : List V} {as : List AV}, RelAs K H vs as → ∀ i : Nat, (vs[i]? = none ∧ as[i]? = none) ∨ ∃ v a, vs[i]? = some v ∧ as[i]? = some a ∧ RelA K H v a
  | _, _, .nil, i => .inl ⟨by simp, by simp⟩
  | _, _, .cons a r, 0 => .inr ⟨_, _, rfl, rfl, a⟩
  | _, _, .cons a r, i + 1 => by simpa using relAs_get r i
theorem relAs_pick {K : PySem.W.Frag} {H : Hp} {vs : List V} {as : List AV} (h : RelAs K H vs as) : ∀ is : List Nat, RelAs K H (pick is vs) (pick is as)
  | [] => .nil
  | i :: is => by
    unfold pick
    rw [List.filterMap_cons, List.filterMap_cons]
    rcases relAs_get h i with ⟨e1, e2⟩ | ⟨v, a, e1, e2, r⟩
    · rw [e1, e2]; exact relAs_pick h is
    · rw [e1, e2]; exact .cons r (relAs_pick h is)
structure PrmP (P : Program) (w : World) (K : PySem.W.Frag) (mg : Str → Option Value) (base : Heap) (k : Nat) (x : Str) (n : Nat) (ks : List Str) (is : List Nat) (d : DOs) : Prop where
  ex : ∃ f fd ps, FnG P w K mg base k f fd ps (spOf K n d) ∧ mg x = some (.ref f) ∧ PySem.W.keepIn K (.ref f) = true ∧ (∀ (s : Shared) (ws : List Value), (pick is ws).length = ps.length → BindsTo s fd ⟨[], ks.zip ws⟩ (ps.zip (pick is ws)))
  hl : ∀ as μ Q, d as μ Q → as.length = n
/-- a promise, told by names -/
theorem Prm.kw {P : Program} {w : World} {K : PySem.W.Frag} {mg : Str → Option Value} {base : Heap} {k n : Nat} {x : Str} {d : DOs} {ks : List Str} {is : List Nat} {st : Stmt} {ps : List Str} {f : Addr} {fd : FuncData} (p : Prm P w K mg base k x n d) (D : DefAt K mg x st ps f fd)
    (hb : ∀ (s : Shared) (ws : List Value), (pick is ws).length = ps.length → BindsTo s fd ⟨[], ks.zip ws⟩ (ps.zip (pick is ws))) : PrmP P w K mg base k x n ks is d := by
  obtain ⟨⟨f', fd', ps', F, hm, hk, _, hn, oc, od, osl, l⟩, hl⟩ := p
  have e := hm.symm.trans D.at_
  cases e
  obtain ⟨oc2, od2, osl2, l2⟩ := D.lk
  rw [l2] at l
  cases l
  obtain rfl : ps' = ps := hn.trans D.nm.symm
  exact ⟨⟨_, _, _, F, hm, hk, hb⟩, hl⟩
section
variable {X : Cx} {x : Str} {pos p : Pos} {t : TA} {MA : DAx}
def mCallP (d : DOs) (is : List Nat) (MA : DAx) : DEx := fun δ μ P => MA δ μ fun as μ1 => d (pick is as) μ1 P
theorem de_callP {j n : Nat} {d : DOs} {ks : List Str} {is : List Nat} {kws : List Keyword} (q : PrmP X.prog X.w X.K X.mg X.base j x n ks is d) (hr : Room j X.A) (hg : X.A.guards = some []) (gl : Gl X x) (h : DK X kws t MA)
    (hall : (backToKw pos (keywordEach kws X.env)).all (·.1.isSome) = true := by rfl) (hks : (backToKw pos (keywordEach kws X.env)).filterMap (·.1) = ks := by rfl)
    (hdb : (x == ("__debug__" : Str)) = false := by decide) (hpl : ((backTo pos (starEach [] X.env)).any (·.1) || (backToKw pos (keywordEach kws X.env)).any (·.1.isNone)) = false := by rfl) :
    DE X (.Call (.Name x p) [] kws pos) (fun σ H Q => t σ H fun vs H1 => spOf X.K n d (pick is vs) H1 Q) (mCallP d is MA) := by
  obtain ⟨⟨f, fd, ps, F, hm, hk, hb⟩, hl⟩ := q
  exact ⟨pe_callGK (g := pick is) (gu := pick is) F hr hg gl hm hk hb (fun r => vals_pick r is) h.pk hall hks hdb hpl, fun σ H Q δ μ P R hm m c =>
    h.sa σ H _ δ μ _ R hm m fun xs H1 as μ1 e1 hm1 r1 m1 => so_of hl (pick is xs) H1 Q (pick is as) μ1 P hm1 (relAs_pick r1 is) m1 (c.from e1)⟩
end
end DL

set_option maxHeartbeats 4000000
/-! is True, is not True, by truths -/
namespace DL
open PySem PySem.Spec PyProof.Rows L2 RZ
variable {K : PySem.W.Frag}
def oNotB : DO2 := fun a b μ P => ∃ k l, a = .dat (.bool k) ∧ b = .dat (.bool l) ∧ P (.dat (.bool (!decide (k = l)))) μ
theorem so_notBl : SO2 K rNotB oNotB := fun x y H Q a b μ P hm rx ry ⟨k, l, e1, e2, p⟩ c => by
  subst e1 e2
  exact ⟨k, l, dp_bl rx, dp_bl ry, c.here hm (rB _) p⟩
end DL

set_option maxHeartbeats 4000000
/-! tuples that hold cells; cells read as data; cells made data; lists of cells walked; extend, any, sorted of data -/
namespace DL
open PySem PySem.Spec PyProof.Rows L2 RZ PySem.W
section
variable {K : PySem.W.Frag} {H : Hp} {μ : Mu}
theorem HM.tup (h : HM K H μ) {a : Addr} {as : List AV} (e : μ a = some (.tup as)) : ∃ xs, H a = some (.tup xs) ∧ RelAs K (hid H μ) xs as := h a _ e
theorem HM.storeT (h : HM K H μ) {a : Addr} (ha : hid H μ a = none) {xs : List V} {as : List AV} (r : RelAs K (hid H μ) xs as) : HM K (upd H a (.tup xs)) (mset μ a (some (.tup as))) := fun b m hb => by
  rw [hid_store ha]
  by_cases e : b = a
  · subst e
    rw [mset_same] at hb
    cases hb
    exact ⟨xs, upd_same, r⟩
  · rw [mset_ne e] at hb
    have q := h b m hb
    cases m <;> (obtain ⟨ys, e1, r1⟩ := q; exact ⟨ys, (upd_ne e).trans e1, r1⟩)
/-! ### what cells read as -/
mutual
inductive AsD (μ : Mu) : AV → PyData → Prop
  | dat (d : PyData) : AsD μ (.dat d) d
  | lst {p : Addr} {as : List AV} {ds : List PyData} (h : μ p = some (.lst as)) (r : AsDs μ as ds) : AsD μ (.mut p) (.list ds)
  | tup {p : Addr} {as : List AV} {ds : List PyData} (h : μ p = some (.tup as)) (r : AsDs μ as ds) : AsD μ (.mut p) (.tuple ds)
inductive AsDs (μ : Mu) : List AV → List PyData → Prop
  | nil : AsDs μ [] []
  | cons {a : AV} {d : PyData} {as : List AV} {ds : List PyData} (h : AsD μ a d) (r : AsDs μ as ds) : AsDs μ (a :: as) (d :: ds)
end
theorem AsDs.dats (μ : Mu) : ∀ ds : List PyData, AsDs μ (ds.map AV.dat) ds
  | [] => .nil
  | d :: ds => .cons (.dat d) (AsDs.dats μ ds)
theorem AsD.cell {p : Addr} {ds : List PyData} (h : μ p = some (.lst (ds.map AV.dat))) : AsD μ (.mut p) (.list ds) := .lst h (AsDs.dats μ ds)
mutual
theorem AsD.dp (hm : HM K H μ) : ∀ {a : AV} {d : PyData} {v : V}, AsD μ a d → RelA K (hid H μ) v a → Dp K0 H v d
  | _, _, _, .dat d, r => dp_mono (hid_same H μ) r
  | _, _, _, .lst h q, r => by
    obtain ⟨xs, e, rs⟩ := hm.lst h
    cases (show _ = V.ref _ from r)
    exact .lst (.inl (.inl e)) (AsDs.dp hm q rs)
  | _, _, _, .tup h q, r => by
    obtain ⟨xs, e, rs⟩ := hm.tup h
    cases (show _ = V.ref _ from r)
    exact .tup (.inl (.inl e)) (AsDs.dp hm q rs)
theorem AsDs.dp (hm : HM K H μ) : ∀ {as : List AV} {ds : List PyData} {vs : List V}, AsDs μ as ds → RelAs K (hid H μ) vs as → DpAll K0 H vs ds
  | _, _, _, .nil, .nil => .nil
  | _, _, _, .cons h q, .cons r rs => .cons (AsD.dp hm h r) (AsDs.dp hm q rs)
end
abbrev nomu : Mu := fun _ => none
theorem hid_nomu (H : Hp) : hid H nomu = H := funext fun _ => rfl
theorem hm_nomu : HM K H nomu := fun _ _ h => by cases h
/-- what stands for itself -/
def scalar : AV → Bool
  | .dat .none => true
  | .dat (.bool _) => true
  | .dat (.int _) => true
  | .dat (.str _) => true
  | _ => false
theorem rel_scalar {H' : Hp} {v : V} {a : AV} (h : scalar a = true) (r : RelA K H v a) : RelA K H' v a := by
  cases a with
  | dat d =>
    cases d with
    | none => cases r; exact .non
    | bool b => cases r; exact .bl b
    | int b => cases r; exact .int b
    | str b => cases r; exact .str b
    | _ => cases h
  | _ => cases h
/-- from a heap all of whose objects are to stay -/
theorem Cont.all {P : DV} {Q : VK} (hm : HM K H μ) (c : Cont K H μ P Q) : Cont K H nomu (fun a _ => scalar a = true ∧ P a μ) Q := fun v H' a μ' e hm' r ⟨hs, p⟩ => by
  have up : ∀ b o, H b = some o → H' b = some o := fun b o hb => (hid_some (e b o (by rw [hid_nomu]; exact hb))).2
  have same : Same (hid H μ) (hid H' μ) := fun b o hb => by
    obtain ⟨h1, h2⟩ := hid_some hb
    rw [hid_none h1]
    exact up b o h2
  refine c v H' a μ same (hm.mono same fun b hb => ?_) (rel_scalar hs r) p
  obtain ⟨m, hm1⟩ := Option.isSome_iff_exists.mp hb
  have q := hm b m hm1
  cases m <;> (obtain ⟨xs, e1, _⟩ := q; rw [e1]; exact up b _ e1)
end
section
variable {X : Cx} {e a b : Expr} {es : List Expr} {x : Str} {pos p : Pos} {t : TA} {MA : DAx} {ta tb te : TE} {Ma Mb Me : DEx} {kws : List Keyword}
/-- a call that only reads: its arguments may be cells, or hold cells; what it tells stands for itself -/
def mCallB (d : DOs) (MA : DAx) : DEx := fun δ μ P => MA δ μ fun as μ1 => ∃ ds, AsDs μ1 as ds ∧ d (ds.map AV.dat) nomu fun r _ => scalar r = true ∧ P r μ1
theorem sa_bor {n : Nat} {d : DOs} (hl : ∀ as μ Q, d as μ Q → as.length = n) (h : SA X.K t MA) : SE X.K (fun σ H Q => t σ H fun vs H1 => spOf X.K n d vs H1 Q) (mCallB d MA) := fun σ H Q δ μ P R hm m c =>
  h σ H _ δ μ _ R hm m fun vs H1 as μ1 e1 hm1 r1 ⟨ds, q, m1⟩ => by
    have z := AsDs.dp hm1 q r1
    refine so_of hl vs H1 Q (ds.map AV.dat) nomu _ hm_nomu ?_ m1 (Cont.all hm1 (c.from e1))
    rw [hid_nomu]
    exact relAs_dat.mp z
theorem de_callBor {j n : Nat} {d : DOs} (q : Prm X.prog X.w X.K X.mg X.base j x n d) (hr : Room j X.A) (hg : X.A.guards = some []) (gl : Gl X x) (h : DA X (e :: es) t MA) (hdb : (x == ("__debug__" : Str)) = false := by decide)
    (he : starEach (e :: es) X.env = (false, eval e X.env) :: starEach es X.env := by rfl) (hpl : (backTo pos (starEach es X.env)).any (·.1) = false := by rfl) : DE X (.Call (.Name x p) (e :: es) [] pos) (tCallD X.K n d t) (mCallB d MA) := by
  obtain ⟨⟨f, fd, ps, F, hm, hk, hb, _⟩, hl⟩ := q
  exact ⟨pe_callG F hr hg gl hm hk hb h.pa hdb he hpl, sa_bor hl h.sa⟩
/-! ### tuples that hold cells -/
def mTupM (MA : DAx) : DEx := fun δ μ P => MA δ μ fun as μ1 => as.length ≤ sizeLine ∧ ∀ p, μ1 p = none → P (.mut p) (mset μ1 p (some (.tup as)))
theorem dm_tup {x1} (h : DA X es t MA) : DE X (.Tuple es x1 pos) (tTup t) (mTupM MA) := ⟨pe_tup h.pa, fun σ H Q δ μ P R hm m c =>
  h.sa σ H _ δ μ _ R hm m fun vs H1 as μ1 e1 hm1 r1 ⟨hz, m1⟩ => ⟨by rw [paired_len r1]; exact hz, fun q n => by
    have hn : hid H1 μ1 q = none := by rw [hid_none (hm1.ne n)]; exact n
    exact c _ _ (.mut q) _ (by rw [hid_store hn]; exact e1) (hm1.storeT hn r1) rfl (m1 q (hm1.ne n))⟩⟩
/-- t[i], t a tuple that holds cells -/
def oIxT : DO2 := fun a b μ P => ∃ p as i r, a = .mut p ∧ b = .dat (.int i) ∧ μ p = some (.tup as) ∧ atI as i = some r ∧ P r μ
theorem so_ixT {K : PySem.W.Frag} : SO2 K (rIx K) oIxT := fun x y H Q a b μ P hm rx ry ⟨p, as, i, r, e1, e2, hp, hi, q⟩ c => by
  subst e1 e2
  cases (show x = V.ref p from rx)
  cases (show y = V.int i from dp_int ry)
  obtain ⟨xs, g1, g2⟩ := hm.tup hp
  obtain ⟨v, hv, rv⟩ := atI_rel g2 hi
  exact .inr (.inl ⟨p, xs, i, v, rfl, rfl, .inl (.inl g1), hv, c.here hm rv q⟩)
theorem de_ixT (ha : DE X a ta Ma) (hb : DE X b tb Mb) (hs : PlainIx b) : DE X (.Subscript a b pos) (tOp (rIx X.K) ta tb) (mOp oIxT Ma Mb) := ⟨pe_ix ix_seq ha.pe hb.pe hs, se_op so_ixT ha.se hb.se⟩
/-- x, y = t, t a tuple that holds cells -/
def mgTupC (n : Nat) (Gs : List AV → Dl → Mu → (Dl → Mu → Prop) → Prop) : DGx := fun a δ μ P => ∃ p as, a = .mut p ∧ μ p = some (.tup as) ∧ as.length = n ∧ Gs as δ μ P
theorem dg_tupC {K : PySem.W.Frag} {k : Nat} {gs : TGs} {Gs} {n : Nat} {vs : List Nat} (hK : X.K = K) (hc : X.calm = true) (h : DGs X es gs Gs vs) (hn : (assignEach es X.env).length = n := by rfl) (hst : (assignEach es X.env).findIdx? (·.1) = none := by rfl) : DG X (.Tuple es k pos) (gTup K n gs) (mgTupC n Gs) vs := by
  subst hK
  exact ⟨pg_tup hc h.pgs hn hst, fun v σ H Q a δ μ P R hm r ⟨p, as, ea, hp, hl, m⟩ c => by
    subst ea
    cases (show v = V.ref p from r)
    obtain ⟨xs, g1, g2⟩ := hm.tup hp
    exact ⟨p, xs, rfl, .inl (.inl g1), by rw [paired_len g2]; exact hl, h.sgs xs σ H Q _ δ μ P R hm g2 m c⟩⟩
/-! ### extend -/
def mExtend (Mo : DEx) (MA : DAx) : DEx := fun δ μ P => Mo δ μ fun a μ1 => ∃ p as0, a = .mut p ∧ μ1 p = some (.lst as0) ∧ MA δ μ1 fun xs μ2 => ∃ q as bs, xs = [.mut q] ∧ q ≠ p ∧ μ2 p = some (.lst as) ∧ μ2 q = some (.lst bs) ∧ as.length + bs.length ≤ sizeLine ∧ P (.dat .none) (mset (mset μ2 p (some (.lst (as ++ bs)))) q none)
theorem de_extendE {apos cpos : Pos} {o : Expr} {to : TE} {Mo : DEx} (ho : DE X o to Mo) (h : DA X (e :: es) t MA)
    (hbase : attributeBase o "extend" X.env (eval o X.env) = eval o X.env := by rfl)
    (hfew : ((backTo cpos (starEach (e :: es) X.env)).all (fun x => !x.1) && (backToKw cpos (keywordEach [] X.env)).all (fun x => x.1.isSome)
      && decide ((e :: es).length + ([] : List Keyword).length + (if ([] : List Keyword).isEmpty then 0 else 1) < 30)) = true := by rfl)
    (hline : (apos.endLine == cpos.line) = true := by rfl) (hs : starEach (e :: es) X.env = (false, eval e X.env) :: starEach es X.env := by rfl) (hplain : (backTo cpos (starEach es X.env)).any (·.1) = false := by rfl) :
    DE X (.Call (.Attribute o "extend" apos) (e :: es) [] cpos) (tBM X.K "list" rExtend to t) (mExtend Mo MA) := ⟨pe_bm PySem.F.plainAttrs_list PySem.F.slot_list_extend PySem.F.type_list_extend mt_extend ho.pe h.pa hbase hfew hline hs hplain,
  fun σ H Q δ μ P R hm m c => ho.se σ H _ δ μ _ R hm m fun y H1 av μ1 e1 hm1 r1 ⟨p, as0, ea, h0, m1⟩ => by
    subst ea
    cases (show y = .ref p from r1)
    obtain ⟨ys, ey, _⟩ := hm1.lst h0
    refine ⟨.inl ⟨rfl, ys, .inl (.inl ey)⟩, h.sa σ H1 _ δ μ1 _ (R.mono e1) hm1 m1 fun xs H2 bs' μ2 e2 hm2 r2 ⟨q, as, bs, eb, ne, h2, h3, hz, m2⟩ => ?_⟩
    subst eb
    obtain ⟨w, rfl, rw'⟩ := relAs1 r2
    cases (show w = V.ref q from rw')
    obtain ⟨zs, ez, rz⟩ := hm2.lst h2
    obtain ⟨us, eu, ru⟩ := hm2.lst h3
    have hp := hid_cell (H := H2) h2
    refine ⟨p, q, zs, us, rfl, rfl, ez, eu, by rw [paired_len rz, paired_len ru]; exact hz, c _ _ (.dat .none) _ (Same.trans ?_ (hid_freeze q)) ((hm2.store hp (paired_append rz ru)).freeze q) rN m2⟩
    rw [hid_store hp]
    exact e1.trans e2⟩
/-! ### any -/
def oAny : DO1 := fun a μ P => ∃ bs : List Bool, a = .dat (.list (bs.map PyData.bool)) ∧ P (.dat (.bool (bs.any id))) μ
theorem so_any {K : PySem.W.Frag} : SO1 K (fun x H Q => rAny K [x] H Q) oAny := fun x H Q a μ P hm rx ⟨bs, e1, p⟩ c => by
  subst e1
  obtain ⟨l, xs, rfl, h1, h2⟩ := dp_list rx
  exact ⟨l, bs, rfl, by rw [← bls h2]; exact .inl (rd_mono (hid_same H μ) h1), c.here hm (rB _) p⟩
theorem any_map (ds : List PyData) (g : PyData → Bool) (Q : DV) (μ : Mu) (h : Q (.dat (.bool (ds.any g))) μ) : oAny (.dat (.list (ds.map fun d => .bool (g d)))) μ Q :=
  ⟨ds.map g, by rw [List.map_map]; rfl, by rw [List.any_map]; exact h⟩
end
section
variable {X : Cx} {a b : Expr} {ta tb : TE} {Ma Mb : DEx} {pos : Pos} {K : PySem.W.Frag} {d : DO2}
theorem dt_cmpC {op : CmpOp} {r : PySem.W.Frag → R2} (hK : X.K = K) (ho : OpR X (compareOp op) (r X.K)) (hd : SO2 K (r K) d) (ha : DE X a ta Ma) (hb : DE X b tb Mb) (hm : behindInMarks op b = false := by first | exact nobehind _ (by decide) (by decide) | rfl) : DT X (.Compare a [op] [b] pos) (tTest (tOp (r K) ta tb)) (mTest (mOp d Ma Mb)) := by
  subst hK
  exact dt_cmp ho hd ha hb hm
end
/-! ### asked of cells as of data -/
section
variable {K : PySem.W.Frag}
theorem AsD.dpu {H : Hp} {μ : Mu} {a : AV} {d : PyData} {v : V} (hm : HM K H μ) (h : AsD μ a d) (r : RelA K (hid H μ) v a) : Dp K H v d := dp_up (AsD.dp hm h r)
def oInL (g : Bool → Bool) : DO2 := fun a b μ P => ∃ d ds, AsD μ a d ∧ AsD μ b (.list ds) ∧ SeqAt.shaped d = true ∧ SeqAt.shaped (.list ds) = true ∧ P (.dat (.bool (g (memD ds d)))) μ
theorem so_inL : SO2 K (rInD K) (oInL fun b => b) := fun x y H Q a b μ P hm rx ry ⟨d, ds, h1, h2, s1, s2, p⟩ c => ⟨d, ds, h1.dpu hm rx, h2.dpu hm ry, s1, s2, c.here hm (rB _) p⟩
theorem so_notInL : SO2 K (rNotInD K) (oInL fun b => !b) := fun x y H Q a b μ P hm rx ry ⟨d, ds, h1, h2, s1, s2, p⟩ c => ⟨d, ds, h1.dpu hm rx, h2.dpu hm ry, s1, s2, c.here hm (rB _) p⟩
def oEqA (g : Bool → Bool) : DO2 := fun a b μ P => ∃ d e, AsD μ a d ∧ AsD μ b e ∧ SeqAt.shaped d = true ∧ SeqAt.shaped e = true ∧ P (.dat (.bool (g (PyData.eqv d e)))) μ
theorem so_eqA : SO2 K (rEqD K) (oEqA fun b => b) := fun x y H Q a b μ P hm rx ry ⟨d, e, h1, h2, s1, s2, p⟩ c => ⟨d, e, h1.dpu hm rx, h2.dpu hm ry, s1, s2, c.here hm (rB _) p⟩
theorem so_neA : SO2 K (rNeD K) (oEqA fun b => !b) := fun x y H Q a b μ P hm rx ry ⟨d, e, h1, h2, s1, s2, p⟩ c => ⟨d, e, h1.dpu hm rx, h2.dpu hm ry, s1, s2, c.here hm (rB _) p⟩
def oReprA : DO1 := fun a μ P => ∃ d, AsD μ a d ∧ d.showable = true ∧ d.hasDict = false ∧ d.depth ≤ 60 ∧ d.shown.length ≤ sizeLine ∧ P (.dat (.str d.shown)) μ
theorem so_reprA : SO1 K (fun x H Q => rRepr K [x] H Q) oReprA := fun x H Q a μ P hm rx ⟨d, h, s1, s2, s3, s4, p⟩ c => ⟨x, d, rfl, h.dpu hm rx, s1, s2, s3, s4, c.here hm (rS _) p⟩
end
/-! ### cells made data, or dropped -/
def fzA (p : Addr) (ds : List PyData) : AV → AV
  | .mut q => if q = p then .dat (.list ds) else .mut q
  | a => a
def fzM (p : Addr) (ds : List PyData) : MO → MO
  | .lst as => .lst (as.map (fzA p ds))
  | .dK kvs => .dK (kvs.map fun q => (q.1, fzA p ds q.2))
  | .tup as => .tup (as.map (fzA p ds))
  | .dT kvs => .dT (kvs.map fun q => (q.1, fzA p ds q.2))
  | .lk o us kvs => .lk o us (kvs.map fun q => (q.1, fzA p ds q.2))
inductive Gho : Dl → Mu → Dl → Mu → Prop
  | refl (δ : Dl) (μ : Mu) : Gho δ μ δ μ
  | drop {δ : Dl} {μ : Mu} (p : Addr) : Gho δ μ δ (mset μ p none)
  | forget {δ : Dl} {μ : Mu} (i : Nat) : Gho δ μ (δ.set i none) μ
  | frz {δ δ' : Dl} {μ μ' : Mu} (p : Addr) (ds : List PyData) (hp : μ p = some (.lst (ds.map AV.dat))) (hl : δ'.length = δ.length) (hδ : ∀ i : Nat, δ'[i]? = δ[i]? ∨ δ'[i]? = (δ[i]?).map (Option.map (fzA p ds)))
      (h0 : μ' p = none) (hμ : ∀ b, b ≠ p → μ' b = μ b ∨ μ' b = (μ b).map (fzM p ds)) : Gho δ μ δ' μ'
  | trans {δ δ' δ'' : Dl} {μ μ' μ'' : Mu} (h1 : Gho δ μ δ' μ') (h2 : Gho δ' μ' δ'' μ'') : Gho δ μ δ'' μ''
section
variable {K : PySem.W.Frag} {H : Hp}
theorem fzA_rel {μ μ' : Mu} {p : Addr} {ds : List PyData} (hm : HM K H μ) (hp : μ p = some (.lst (ds.map AV.dat))) (e : Same (hid H (mset μ p none)) (hid H μ')) {v : V} : ∀ {a : AV}, RelA K (hid H μ) v a → RelA K (hid H μ') v (fzA p ds a)
  | .mut q, r => by
    show RelA K (hid H μ') v (if q = p then .dat (.list ds) else .mut q)
    by_cases z : q = p
    · rw [if_pos z]
      subst z
      cases (show v = V.ref q from r)
      exact dp_mono e (dp_freeze hm hp)
    · rw [if_neg z]
      exact r
  | .dat d, r => dp_mono ((hid_freeze p).trans e) r
  | .cls n, r => r
  | .raw ns, r => relA_mono ((hid_freeze p).trans e) r
theorem Gho.sound {δ δ' : Dl} {μ μ' : Mu} (g : Gho δ μ δ' μ') : HM K H μ → HM K H μ' ∧ Same (hid H μ) (hid H μ') ∧ ∀ σ, Rel K (hid H μ) σ δ → Rel K (hid H μ') σ δ' := by
  induction g with
  | refl => exact fun hm => ⟨hm, Same.refl _, fun _ R => R⟩
  | drop p => exact fun hm => ⟨hm.freeze p, hid_freeze p, fun _ R => R.mono (hid_freeze p)⟩
  | @forget δ _ i => exact fun hm => ⟨hm, Same.refl _, fun σ R => ⟨by rw [List.length_set]; exact R.len, fun j a h => by
      by_cases z : i = j
      · subst z
        by_cases hi : i < δ.length
        · rw [List.getElem?_set_self hi] at h; cases h
        · rw [List.getElem?_eq_none (by rw [List.length_set]; omega)] at h; cases h
      · rw [List.getElem?_set_ne z] at h
        exact R.get j a h⟩⟩
  | @frz δ δ' μ μ' p ds hp hl hδ h0 hμ =>
    intro hm
    have none_iff : ∀ b, μ' b = none ↔ mset μ p none b = none := fun b => by
      by_cases z : b = p
      · rw [z, h0, mset_same]
      · rw [mset_ne z]
        rcases hμ b z with q | q <;> rw [q]
        rw [Option.map_eq_none_iff]
    have eh : hid H μ' = hid H (mset μ p none) := by
      funext b
      cases q : μ' b with
      | none => rw [hid_none q, hid_none ((none_iff b).mp q)]
      | some m =>
        cases q2 : mset μ p none b with
        | none => rw [(none_iff b).mpr q2] at q; cases q
        | some m2 => rw [hid_cell q, hid_cell q2]
    have same : Same (hid H (mset μ p none)) (hid H μ') := by rw [eh]; exact Same.refl _
    refine ⟨fun b m hb => ?_, (hid_freeze p).trans same, fun σ R => ⟨R.len.trans hl.symm, fun i a h => ?_⟩⟩
    · have nb : b ≠ p := fun z => by rw [z, h0] at hb; cases hb
      have up : ∀ v a, RelA K (hid H μ) v a → RelA K (hid H μ') v a := fun v a r => relA_mono ((hid_freeze p).trans same) r
      rcases hμ b nb with q | q
      · rw [q] at hb
        have z := hm b m hb
        cases m with
        | lst as => obtain ⟨xs, e1, r⟩ := z; exact ⟨xs, e1, paired_mono up r⟩
        | dK ks => obtain ⟨xs, e1, r⟩ := z; exact ⟨xs, e1, paired_mono (fun _ _ y => ⟨y.1, up _ _ y.2⟩) r⟩
        | tup as => obtain ⟨xs, e1, r⟩ := z; exact ⟨xs, e1, paired_mono up r⟩
        | dT ks => obtain ⟨xs, e1, r⟩ := z; exact ⟨xs, e1, paired_mono (fun _ _ y => ⟨y.1, up _ _ y.2⟩) r⟩
        | lk o us ks => obtain ⟨xs, e1, e2, r⟩ := z; exact ⟨xs, e1, e2, paired_mono (fun _ _ y => ⟨y.1, up _ _ y.2⟩) r⟩
      · cases hb0 : μ b with
        | none => rw [q, hb0] at hb; cases hb
        | some m0 =>
          rw [q, hb0] at hb
          obtain rfl : fzM p ds m0 = m := Option.some.inj hb
          have z := hm b m0 hb0
          have fz : ∀ v a, RelA K (hid H μ) v a → RelA K (hid H μ') v (fzA p ds a) := fun v a r => fzA_rel hm hp same r
          have pm : ∀ {xs : List V} {as : List AV}, RelAs K (hid H μ) xs as → RelAs K (hid H μ') xs (as.map (fzA p ds)) := by
            intro xs as r
            induction r with
            | nil => exact .nil
            | cons a _ ih => exact .cons (fz _ _ a) ih
          have pk : ∀ {κ : Type} {xs : List (κ × V)} {ks : List (κ × AV)}, Paired (fun (x : κ × V) (y : κ × AV) => x.1 = y.1 ∧ RelA K (hid H μ) x.2 y.2) xs ks →
              Paired (fun (x : κ × V) (y : κ × AV) => x.1 = y.1 ∧ RelA K (hid H μ') x.2 y.2) xs (ks.map fun q => (q.1, fzA p ds q.2)) := by
            intro κ xs ks r
            induction r with
            | nil => exact .nil
            | cons a _ ih => exact .cons ⟨a.1, fz _ _ a.2⟩ ih
          cases m0 with
          | lst as => obtain ⟨xs, e1, r⟩ := z; exact ⟨xs, e1, pm r⟩
          | dK ks => obtain ⟨xs, e1, r⟩ := z; exact ⟨xs, e1, pk r⟩
          | tup as => obtain ⟨xs, e1, r⟩ := z; exact ⟨xs, e1, pm r⟩
          | dT ks => obtain ⟨xs, e1, r⟩ := z; exact ⟨xs, e1, pk r⟩
          | lk o us ks => obtain ⟨xs, e1, e2, r⟩ := z; exact ⟨xs, e1, e2, pk r⟩
    · rcases hδ i with q | q
      · rw [q] at h
        obtain ⟨v, h1, r⟩ := R.get i a h
        exact ⟨v, h1, relA_mono ((hid_freeze p).trans same) r⟩
      · rw [q] at h
        cases hi : δ[i]? with
        | none => rw [hi] at h; cases h
        | some o =>
          cases o with
          | none => rw [hi] at h; cases h
          | some a0 =>
            rw [hi] at h
            obtain rfl : fzA p ds a0 = a := Option.some.inj (Option.some.inj h)
            obtain ⟨v, h1, r⟩ := R.get i a0 hi
            exact ⟨v, h1, fzA_rel hm hp same r⟩
  | trans _ _ i1 i2 =>
    intro hm
    obtain ⟨h1, s1, r1⟩ := i1 hm
    obtain ⟨h2, s2, r2⟩ := i2 h1
    exact ⟨h2, s1.trans s2, fun σ R => r2 σ (r1 σ R)⟩
end
/-- one slot's cell made data -/
theorem Gho.one {δ : Dl} {μ : Mu} (i : Nat) (p : Addr) (ds : List PyData) (hi : δ[i]? = some (some (.mut p))) (hp : μ p = some (.lst (ds.map AV.dat))) : Gho δ μ (δ.set i (some (.dat (.list ds)))) (mset μ p none) :=
  .frz p ds hp (by simp) (fun j => by
    by_cases z : i = j
    · subst z
      have hl : i < δ.length := (List.getElem?_eq_some_iff.mp hi).1
      refine .inr ?_
      rw [List.getElem?_set_self hl, hi]
      show _ = some (some (if p = p then AV.dat (.list ds) else .mut p))
      rw [if_pos rfl]
    · exact .inl (List.getElem?_set_ne z)) mset_same fun b hb => .inl (mset_ne hb)
section
variable {X : Cx}
def mGh (M : DSx) : DSx := fun D δ μ => ∃ δ' μ', Gho δ μ δ' μ' ∧ M D δ' μ'
theorem ds_gh {st : Stmt} {t : TS} {M : DSx} (h : DS X st t M) : DS X st t (mGh M) := ⟨h.ps, fun σ H D δ μ DD R hm ⟨δ', μ', g, m⟩ k => by
  obtain ⟨h1, s1, r1⟩ := g.sound (K := X.K) (H := H) hm
  exact h.ss σ H D δ' μ' DD (r1 σ R) h1 m (k.from s1)⟩
def mGhE (M : DEx) : DEx := fun δ μ P => ∃ δ' μ', Gho δ μ δ' μ' ∧ M δ' μ' P
theorem de_gh {e : Expr} {t : TE} {M : DEx} (h : DE X e t M) : DE X e t (mGhE M) := ⟨h.pe, fun σ H Q δ μ P R hm ⟨δ', μ', g, m⟩ c => by
  obtain ⟨h1, s1, r1⟩ := g.sound (K := X.K) (H := H) hm
  exact h.se σ H Q δ' μ' P (r1 σ R) h1 m (c.from s1)⟩
end
end DL

set_option maxHeartbeats 4000000
/-! walks over what may be cells, comprehensions whose items may be cells, dict of such pairs -/
namespace DL
open PySem PySem.Spec PyProof.Rows L2 RZ PySem.W
/-- J walks the items as, as long as N holds of the cells -/
structure DWkA (K : PySem.W.Frag) (J : It) (as : List AV) (H0 : Hp) (μ0 : Mu) (N : Mu → Prop) : Prop where
  goes : ∀ i H μ, i < as.length → Same (hid H0 μ0) (hid H μ) → HM K H μ → N μ → J.go i H
  stops : ∀ H μ, Same (hid H0 μ0) (hid H μ) → HM K H μ → N μ → J.stop as.length H
  yields : ∀ i H μ x H', i < as.length → Same (hid H0 μ0) (hid H μ) → HM K H μ → N μ → J.yld i H x H' → ∃ a, as[i]? = some a ∧ Same (hid H μ) (hid H' μ) ∧ HM K H' μ ∧ RelA K (hid H' μ) x a
abbrev DIa := Dl → Mu → (List AV → (Mu → Prop) → Mu → Prop) → Prop
def SIa (K : PySem.W.Frag) (wi : TI) (M : DIa) : Prop := ∀ σ H R δ μ P, Rel K (hid H μ) σ δ → HM K H μ → M δ μ P → (∀ J H' as N μ', Same (hid H μ) (hid H' μ') → HM K H' μ' → DWkA K J as H' μ' N → P as N μ' → R J H') → wi σ H R
structure DIA (X : Cx) (tg iter : Expr) (wi : TI) (M : DIa) : Prop where
  pi : PI X tg iter wi
  si : SIa X.K wi M
section
variable {X : Cx} {K : PySem.W.Frag} {e : Expr} {es : List Expr} {te : TE} {Me : DEx} {pos : Pos} {vs : List Nat} {tg iter : Expr} {t : TS} {M : DSx} {body : List Stmt}
/-- what is walked is data -/
def miD (MI : DIx) : DIa := fun δ μ P => MI δ μ fun ds μ1 => P (ds.map AV.dat) (fun _ => True) μ1
theorem dia_data {wi : TI} {MI : DIx} (h : DI X tg iter wi MI) : DIA X tg iter wi (miD MI) := ⟨h.pi, fun σ H R δ μ P Rl hm m c => h.si σ H R δ μ _ Rl hm m fun J H1 ds μ1 e1 hm1 wk m1 => c J H1 _ _ μ1 e1 hm1
  ⟨fun i H2 μ2 hi s _ _ => wk.goes i H2 μ2 (by rw [List.length_map] at hi; exact hi) s, fun H2 μ2 s _ _ => by rw [List.length_map]; exact wk.stops H2 μ2 s, fun i H2 μ2 x H3 hi s hm2 _ y => by
    obtain ⟨d, hd, r⟩ := wk.yields i H2 μ2 x H3 (by rw [List.length_map] at hi; exact hi) s hm2 y
    exact ⟨.dat d, by rw [List.getElem?_map, hd]; rfl, r⟩⟩ m1⟩
/-- a list that is a cell -/
def miC (Me : DEx) : DIa := fun δ μ P => Me δ μ fun a μ1 => ∃ p as, a = .mut p ∧ μ1 p = some (.lst as) ∧ P as (fun μ => μ p = some (.lst as)) μ1
theorem relAs_get' {H : Hp} : ∀ {vs : List V} {as : List AV} {i : Nat} {v : V}, RelAs K H vs as → vs[i]? = some v → ∃ a, as[i]? = some a ∧ RelA K H v a
  | _, _, _, _, .nil, h => by simp at h
  | _, _, 0, _, .cons a _, h => by simp at h; subst h; exact ⟨_, rfl, a⟩
  | _, _, i + 1, _, .cons _ b, h => by
    obtain ⟨a, h1, h2⟩ := relAs_get' (i := i) b (by simpa using h)
    exact ⟨a, by simpa using h1, h2⟩
theorem dia_cell (h : DE X iter te Me) : DIA X tg iter (iList X.K te) (miC Me) := ⟨pi_list h.pe, fun σ H R δ μ P Rl hm m c => h.se σ H _ δ μ _ Rl hm m fun v H1 a μ1 e1 hm1 r1 ⟨p, as, ea, hp, m1⟩ => by
  subst ea
  cases (show v = .ref p from r1)
  obtain ⟨xs, h1, h2⟩ := hm1.lst hp
  refine ⟨p, rfl, ⟨xs, .inl (.inl h1)⟩, c _ H1 as _ μ1 e1 hm1 ⟨fun i H2 μ2 hi _ hm2 hN => ?_, fun H2 μ2 _ hm2 hN => ?_, fun i H2 μ2 x H3 hi _ hm2 hN y => ?_⟩ m1⟩
  · obtain ⟨ys, g1, g2⟩ := hm2.lst hN
    obtain ⟨v, hv, _⟩ := paired_get g2 (List.getElem?_eq_getElem hi)
    exact ⟨ys, v, .inl (.inl g1), hv⟩
  · obtain ⟨ys, g1, g2⟩ := hm2.lst hN
    exact ⟨ys, .inl (.inl g1), Nat.le_of_eq (paired_len g2)⟩
  · obtain ⟨rfl, y⟩ := y
    obtain ⟨ys, g1, g2⟩ := hm2.lst hN
    obtain ⟨a, ha, ra⟩ := relAs_get' g2 (y ys (.inl (.inl g1)))
    exact ⟨a, ha, Same.refl _, hm2, ra⟩⟩
def mForA (MI : DIa) (G : DGx) (M : DSx) : DSx := fun D δ μ => MI δ μ fun as N μ1 => ∃ W : Nat → Dl → Mu → Prop, W 0 δ μ1 ∧
  (∀ i a δ' μ', as[i]? = some a → W i δ' μ' → N μ' ∧ G a δ' μ' fun δ2 μ2 => M { D with nx := W (i + 1), ct := W (i + 1), bk := D.nx } δ2 μ2) ∧ ∀ δ' μ', W as.length δ' μ' → N μ' ∧ D.nx δ' μ'
theorem ds_forA {wi : TI} {MI : DIa} {g : TG} {G : DGx} (hp : PassesOwn (model X.prog X.w) X.A X.env X.xe) (hc : X.calm = true) (hi : DIA X tg iter wi MI) (hg : DG X tg g G vs) (hb : DB X body t M) (hs : ∀ x, foldedSetIterable iter X.env x = pure x := by intro _; rfl) :
    DS X (.For tg iter body [] pos) (tFor wi g t) (mForA MI G M) := ⟨ps_for hp hc hi.pi hg.pg hb.ps hs, fun σ H D δ μ DD R hm m c => hi.si σ H _ δ μ _ R hm m fun J H1 as N μ1 e1 hm1 wk ⟨W, w0, turn, done⟩ => by
  refine ⟨fun i k σ' H' => k = as.length - i ∧ i ≤ as.length ∧ ∃ δ' μ', Same (hid H1 μ1) (hid H' μ') ∧ HM X.K H' μ' ∧ Rel X.K (hid H' μ') σ' δ' ∧ W i δ' μ',
    ⟨as.length, by simp, Nat.zero_le _, δ, μ1, Same.refl _, hm1, R.mono e1, w0⟩, ?_⟩
  rintro i k σ' H' ⟨rfl, hi, δ', μ', e', hm', R', w'⟩
  by_cases hlt : i < as.length
  · obtain ⟨hN, turn'⟩ := turn i _ δ' μ' (List.getElem?_eq_getElem hlt) w'
    refine .inr ⟨wk.goes i H' μ' hlt e' hm' hN, fun σ2 H2 => ∃ δ2 μ2, Same (hid H1 μ1) (hid H2 μ2) ∧ HM X.K H2 μ2 ∧ Rel X.K (hid H2 μ2) σ2 δ2 ∧ W (i + 1) δ2 μ2, fun σ2 H2 q => ⟨as.length - (i + 1), by omega, rfl, hlt, q⟩, fun x H2 y => ?_⟩
    obtain ⟨a, ha, es, hm2, ra⟩ := wk.yields i H' μ' x H2 hlt e' hm' hN y
    rw [List.getElem?_eq_getElem hlt] at ha
    cases ha
    refine hg.sg x σ' H2 _ _ δ' μ' _ (R'.mono es) hm2 ra turn' fun σ3 H3 δ3 μ3 e3 hm3 R3 _ m3 => ?_
    have e13 := (e'.trans es).trans e3
    exact hb.ss σ3 H3 _ δ3 μ3 _ R3 hm3 m3 ⟨fun σ4 H4 δ4 μ4 e4 hm4 R4 w4 => ⟨δ4, μ4, e13.trans e4, hm4, R4, w4⟩, (c.nx.from e1).from e13, fun σ4 H4 δ4 μ4 e4 hm4 R4 w4 => ⟨δ4, μ4, e13.trans e4, hm4, R4, w4⟩, (c.rt.from e1).from e13⟩
  · have ei : i = as.length := by omega
    subst ei
    obtain ⟨hN, done'⟩ := done δ' μ' w'
    exact .inl ⟨wk.stops H' μ' e' hm' hN, c.nx σ' H' δ' μ' (e1.trans e') hm' R' done'⟩⟩
/-- a comprehension: what comes out is a cell -/
def mLcA (MI : DIa) (G : DGx) (MT : DTx) (ME : DEx) (vs : List Nat) : DEx := fun δ μ P => MI δ μ fun as N μ1 => as.length ≤ sizeLine ∧ ∀ D, μ1 D = none → ∃ W : Nat → List AV → Mu → Prop, W 0 [] (mset μ1 D (some (.lst []))) ∧
  (∀ i a acc μ', as[i]? = some a → W i acc μ' → μ' D = some (.lst acc) → N μ' ∧ G a (wipeD δ vs) μ' fun δ2 μ2 => MT δ2 μ2 fun b μ3 =>
    if b = true then ME δ2 μ3 fun e μ4 => μ4 D = some (.lst acc) ∧ W (i + 1) (acc ++ [e]) (mset μ4 D (some (.lst (acc ++ [e])))) else μ3 D = some (.lst acc) ∧ W (i + 1) acc μ3) ∧
  ∀ acc μ', W as.length acc μ' → μ' D = some (.lst acc) → N μ' ∧ P (.mut D) μ'
theorem wipe_wipe {σ : L2.St} : ∀ ws : List Nat, wipe (wipe σ ws) ws = wipe σ ws
  | [] => rfl
  | w :: ws => by
    have q2 : wipe (wipe σ (w :: ws)) (w :: ws) = wipe (wipe σ ws) (w :: ws) := by show wipe ((wipe σ ws).set w none) (w :: ws) = _; exact wipe_set List.mem_cons_self
    rw [q2]
    show (wipe (wipe σ ws) ws).set w none = (wipe σ ws).set w none
    rw [wipe_wipe ws]
theorem se_lcA {wi : TI} {MI : DIa} {g : TG} {G : DGx} {tt : TT} {MT : DTx} {ME : DEx} (hi : SIa K wi MI) (hg : SG K g G vs) (ht : ST K tt MT) (he : SE K te ME) : SE K (tLc wi g tt te vs) (mLcA MI G MT ME vs) := fun σ H Q δ μ P R hm m c => by
  refine hi σ H _ δ μ _ R hm m fun J H1 as N μ1 e1 hm1 wk ⟨hz, m1⟩ D nD => ?_
  have hD : hid H1 μ1 D = none := by rw [hid_none (hm1.ne nD)]; exact nD
  obtain ⟨W, w0, turn, done⟩ := m1 D (hm1.ne nD)
  refine ⟨fun i k H' => k = as.length - i ∧ i ≤ as.length ∧ ∃ acc μ', Same (hid H1 μ1) (hid H' μ') ∧ HM K H' μ' ∧ μ' D = some (.lst acc) ∧ acc.length ≤ i ∧ W i acc μ',
    ⟨as.length, by simp, Nat.zero_le _, [], _, by rw [hid_store hD]; exact Same.refl _, hm1.store hD .nil, mset_same, Nat.le_refl _, w0⟩, ?_⟩
  rintro i k H' ⟨rfl, hi', acc, μ', e', hm', hc, hl, w'⟩
  by_cases hlt : i < as.length
  · obtain ⟨hN, turn'⟩ := turn i _ acc μ' (List.getElem?_eq_getElem hlt) w' hc
    refine .inr ⟨wk.goes i H' μ' hlt e' hm' hN, fun H2 => ∃ acc μ2, Same (hid H1 μ1) (hid H2 μ2) ∧ HM K H2 μ2 ∧ μ2 D = some (.lst acc) ∧ acc.length ≤ i + 1 ∧ W (i + 1) acc μ2, fun H2 q => ⟨as.length - (i + 1), by omega, rfl, hlt, q⟩, fun x H2 y => ?_⟩
    obtain ⟨a, ha, es, hm2, ra⟩ := wk.yields i H' μ' x H2 hlt e' hm' hN y
    rw [List.getElem?_eq_getElem hlt] at ha
    cases ha
    have e01 := e'.trans es
    refine hg x (wipe σ vs) H2 _ _ (wipeD δ vs) μ' _ ((R.mono (e1.trans e01)).wipe vs) hm2 ra turn' fun σ3 H3 δ3 μ3 e3 hm3 R3 w3 m3 => ⟨w3.trans (wipe_wipe vs), ht σ3 H3 _ δ3 μ3 _ R3 hm3 m3 fun b H4 μ4 e4 hm4 m4 => ?_⟩
    cases b with
    | false => exact ⟨acc, μ4, (e01.trans e3).trans e4, hm4, m4.1, by omega, m4.2⟩
    | true =>
      refine he σ3 H4 _ δ3 μ4 _ (R3.mono e4) hm4 m4 fun y5 H5 a5 μ5 e5 hm5 r5 ⟨hc5, w5⟩ => ?_
      obtain ⟨zs, ez, rz⟩ := hm5.lst hc5
      have hp := hid_cell (H := H5) hc5
      refine ⟨zs, ez, by have := paired_len rz; omega, acc ++ [a5], _, ?_, hm5.store hp (xs := zs ++ [y5]) (paired_append rz (.cons r5 .nil)), mset_same, by rw [List.length_append]; simp; exact hl, w5⟩
      rw [hid_store hp]
      exact ((e01.trans e3).trans e4).trans e5
  · have ei : i = as.length := by omega
    subst ei
    obtain ⟨hN, done'⟩ := done acc μ' w' hc
    exact .inl ⟨wk.stops H' μ' e' hm' hN, c _ H' (.mut D) μ' (e1.trans e') hm' rfl done'⟩
theorem de_lcA {elt : Expr} {ifs : List Expr} {scope : Scope} {own : List (Str × Nat)} {wi : TI} {MI : DIa} {g : TG} {G : DGx} {tt : TT} {MT : DTx} {ME : DEx} (hc : X.calm = true) (hN : X.N.Nodup) (hi : DIA X tg iter wi MI) (ok : BlkOk X.N X.env.scope scope own)
    (hg : ∀ (s : Shared) (H : Hp) (C : Addr) (cl : List (Str × Addr)) (fp : List Addr), DG (X.blk s H scope (compEnvC scope cl C X.env) fp) tg g G (own.map (·.2))) (ht : ∀ (s : Shared) (H : Hp) (C : Addr) (cl : List (Str × Addr)) (fp : List Addr), DTs (X.blk s H scope (compEnvC scope cl C X.env) fp) ifs tt MT)
    (he : ∀ (s : Shared) (H : Hp) (C : Addr) (cl : List (Str × Addr)) (fp : List Addr), DE (X.blk s H scope (compEnvC scope cl C X.env) fp) elt te ME) (hs : ∀ x, foldedSetIterable iter X.env x = pure x := by intro _; rfl) :
    DE X (.ListComp elt [⟨tg, iter, ifs, 0⟩] scope pos) (tLc wi g tt te (own.map (·.2))) (mLcA MI G MT ME (own.map (·.2))) :=
  ⟨pe_lc hc hN hi.pi ok (fun s H C cl fp => (hg s H C cl fp).pg) (fun s H C cl fp => (ht s H C cl fp).pts) (fun s H C cl fp => (he s H C cl fp).pe) hs,
    se_lcA hi.si (hg X.s_0 X.H_0 0 [] []).sg (ht X.s_0 X.H_0 0 [] []).st (he X.s_0 X.H_0 0 [] []).se⟩
/-! name = [..], the name a plain local -/
theorem ds_setLc {i : Nat} {y : Str} {py spos : Pos} {elt : Expr} {ifs : List Expr} {scope : Scope} {own : List (Str × Nat)} {wi : TI} {MI : DIx} {g : TG} {G : DGx} {tt : TT} {MT : DTx} {ME : DEx} (hc : X.calm = true) (hN : X.N.Nodup) (hy : X.N[i]? = some y) (hyl : X.env.scope.names.lookup y = some .local)
    (hsw : swapsWith (.ListComp elt [⟨tg, iter, ifs, 0⟩] scope pos) (some (.Name y py)) spos.line X.env = pure true) (hi : DI X tg iter wi MI) (ok : BlkOk X.N X.env.scope scope own)
    (hg : ∀ (s : Shared) (H : Hp) (C : Addr) (cl : List (Str × Addr)) (fp : List Addr), DG (X.blk s H scope (compEnvC scope cl C X.env) fp) tg g G (own.map (·.2))) (ht : ∀ (s : Shared) (H : Hp) (C : Addr) (cl : List (Str × Addr)) (fp : List Addr), DTs (X.blk s H scope (compEnvC scope cl C X.env) fp) ifs tt MT)
    (he : ∀ (s : Shared) (H : Hp) (C : Addr) (cl : List (Str × Addr)) (fp : List Addr), DE (X.blk s H scope (compEnvC scope cl C X.env) fp) elt te ME) (hs : ∀ x, foldedSetIterable iter X.env x = pure x := by intro _; rfl) :
    DS X (.Assign [.Name y py] (.ListComp elt [⟨tg, iter, ifs, 0⟩] scope pos) spos) (tAsg (tLc wi g tt te (own.map (·.2))) (gName i)) (mAsg (mLc MI G MT ME (own.map (·.2))) (mgName i)) :=
  ds_set (ps_setLc hc hN hy hyl hsw hi.pi ok (fun s H C cl fp => (hg s H C cl fp).pg) (fun s H C cl fp => (ht s H C cl fp).pts) (fun s H C cl fp => (he s H C cl fp).pe) hs)
    (se_lc hi.si (hg X.s_0 X.H_0 0 [] []).sg (ht X.s_0 X.H_0 0 [] []).st (he X.s_0 X.H_0 0 [] []).se)
theorem ds_setLcN (fz : Bool) {i : Nat} {y : Str} {py spos : Pos} {elt : Expr} {ifs : List Expr} {scope : Scope} {own : List (Str × Nat)} {wi : TI} {MI : DIn} {g : TG} {G : DGx} {tt : TT} {MT : DTx} {ME : DEx} (hc : X.calm = true) (hN : X.N.Nodup) (hy : X.N[i]? = some y) (hyl : X.env.scope.names.lookup y = some .local)
    (hsw : swapsWith (.ListComp elt [⟨tg, iter, ifs, 0⟩] scope pos) (some (.Name y py)) spos.line X.env = pure true) (hi : DJ X tg iter wi MI) (ok : BlkOk X.N X.env.scope scope own)
    (hg : ∀ (s : Shared) (H : Hp) (C : Addr) (cl : List (Str × Addr)) (fp : List Addr), DG (X.blk s H scope (compEnvC scope cl C X.env) fp) tg g G (own.map (·.2))) (ht : ∀ (s : Shared) (H : Hp) (C : Addr) (cl : List (Str × Addr)) (fp : List Addr), DTs (X.blk s H scope (compEnvC scope cl C X.env) fp) ifs tt MT)
    (he : ∀ (s : Shared) (H : Hp) (C : Addr) (cl : List (Str × Addr)) (fp : List Addr), DE (X.blk s H scope (compEnvC scope cl C X.env) fp) elt te ME) (hs : ∀ x, foldedSetIterable iter X.env x = pure x := by intro _; rfl) :
    DS X (.Assign [.Name y py] (.ListComp elt [⟨tg, iter, ifs, 0⟩] scope pos) spos) (tAsg (tLc wi g tt te (own.map (·.2))) (gName i)) (mAsg (mLcN fz MI G MT ME (own.map (·.2))) (mgName i)) :=
  ds_set (ps_setLc hc hN hy hyl hsw hi.pi ok (fun s H C cl fp => (hg s H C cl fp).pg) (fun s H C cl fp => (ht s H C cl fp).pts) (fun s H C cl fp => (he s H C cl fp).pe) hs)
    (se_lcN (fz := fz) hi.si (hg X.s_0 X.H_0 0 [] []).sg (ht X.s_0 X.H_0 0 [] []).st (he X.s_0 X.H_0 0 [] []).se)
theorem ds_setLcA {i : Nat} {y : Str} {py spos : Pos} {elt : Expr} {ifs : List Expr} {scope : Scope} {own : List (Str × Nat)} {wi : TI} {MI : DIa} {g : TG} {G : DGx} {tt : TT} {MT : DTx} {ME : DEx} (hc : X.calm = true) (hN : X.N.Nodup) (hy : X.N[i]? = some y) (hyl : X.env.scope.names.lookup y = some .local)
    (hsw : swapsWith (.ListComp elt [⟨tg, iter, ifs, 0⟩] scope pos) (some (.Name y py)) spos.line X.env = pure true) (hi : DIA X tg iter wi MI) (ok : BlkOk X.N X.env.scope scope own)
    (hg : ∀ (s : Shared) (H : Hp) (C : Addr) (cl : List (Str × Addr)) (fp : List Addr), DG (X.blk s H scope (compEnvC scope cl C X.env) fp) tg g G (own.map (·.2))) (ht : ∀ (s : Shared) (H : Hp) (C : Addr) (cl : List (Str × Addr)) (fp : List Addr), DTs (X.blk s H scope (compEnvC scope cl C X.env) fp) ifs tt MT)
    (he : ∀ (s : Shared) (H : Hp) (C : Addr) (cl : List (Str × Addr)) (fp : List Addr), DE (X.blk s H scope (compEnvC scope cl C X.env) fp) elt te ME) (hs : ∀ x, foldedSetIterable iter X.env x = pure x := by intro _; rfl) :
    DS X (.Assign [.Name y py] (.ListComp elt [⟨tg, iter, ifs, 0⟩] scope pos) spos) (tAsg (tLc wi g tt te (own.map (·.2))) (gName i)) (mAsg (mLcA MI G MT ME (own.map (·.2))) (mgName i)) :=
  ds_set (ps_setLc hc hN hy hyl hsw hi.pi ok (fun s H C cl fp => (hg s H C cl fp).pg) (fun s H C cl fp => (ht s H C cl fp).pts) (fun s H C cl fp => (he s H C cl fp).pe) hs)
    (se_lcA hi.si (hg X.s_0 X.H_0 0 [] []).sg (ht X.s_0 X.H_0 0 [] []).st (he X.s_0 X.H_0 0 [] []).se)
/-- dict(l), l a cell of pairs that are cells: a new dict -/
def oDictC : DO1 := fun a μ P => ∃ (q : Addr) (ts : List Addr) (kvs : List (Key × AV)), a = .mut q ∧ μ q = some (.lst (ts.map AV.mut)) ∧ Paired (fun t u => μ t = some (.tup [.dat (kD u.1), u.2])) ts kvs ∧
  ∀ p, μ p = none → P (.mut p) (mset μ p (some (.dK (mergeA kvs))))
theorem so_dictC : SO1 K (fun x H Q => ∃ (a : Addr) (ps : List Addr) (us : List (Key × V)), [x] = [.ref a] ∧ SqL K H a (ps.map V.ref) ∧ Paired (fun p u => SqT K H p [kV u.1, u.2]) ps us ∧ ∀ p, H p = none → Q (.ref p) (upd H p (.dK (mergeK [] us)))) oDictC := fun x H Q a μ P hm rx ⟨q, ts, kvs, e1, hq, hp, g⟩ c => by
  subst e1
  cases (show x = V.ref q from rx)
  obtain ⟨xs, g1, g2⟩ := hm.lst hq
  have refs : ∀ {ts : List Addr} {xs : List V}, RelAs K (hid H μ) xs (ts.map AV.mut) → xs = ts.map V.ref := by
    intro ts
    induction ts with
    | nil => intro xs r; cases r; rfl
    | cons t ts ih => intro xs r; cases r with | cons a b => rw [ih b, show _ = V.ref t from a]; rfl
  have es := refs g2
  subst es
  have get : ∀ {ts : List Addr} {kvs : List (Key × AV)}, Paired (fun t u => μ t = some (.tup [.dat (kD u.1), u.2])) ts kvs → ∃ us, Paired (fun p u => SqT K H p [kV u.1, u.2]) ts us ∧ PK K (hid H μ) us kvs := by
    intro ts kvs r
    induction r with
    | nil => exact ⟨[], .nil, .nil⟩
    | @cons t u ts kvs a _ ih =>
      obtain ⟨us, i1, i2⟩ := ih
      obtain ⟨ys, y1, y2⟩ := hm.tup a
      cases y2 with
      | cons b1 b2 =>
        cases b2 with
        | cons b3 b4 =>
          cases b4
          refine ⟨(u.1, _) :: us, .cons (.inl (.inl ?_)) i1, .cons ⟨rfl, b3⟩ i2⟩
          rw [← key_of b1]
          exact y1
  obtain ⟨us, i1, i2⟩ := get hp
  refine ⟨q, ts, us, rfl, .inl (.inl g1), i1, fun p n => ?_⟩
  have hn : hid H μ p = none := by rw [hid_none (hm.ne n)]; exact n
  refine c _ _ (.mut p) _ ?_ (hm.storeK hn (pk_fold i2 .nil)) rfl (g p (hm.ne n))
  rw [hid_store hn]
  exact Same.refl _
end
/-! what is walked is known only when it is asked -/
theorem lcN_gen {fz : Bool} {MI : DIn} {G : DGx} {MT : DTx} {ME : DEx} {vs : List Nat} {δ : Dl} {μ : Mu} {P : DV} (good : List PyData → (Mu → Prop) → Mu → Prop) (h : ∀ C : List PyData → (Mu → Prop) → Mu → Prop, (∀ ds N μ1, good ds N μ1 → C ds N μ1) → MI δ μ C)
    (k : ∀ ds N μ1, good ds N μ1 → mLcN fz (fun _ _ R => R ds N μ1) G MT ME vs δ μ P) : mLcN fz MI G MT ME vs δ μ P := h _ fun ds N μ1 g => k ds N μ1 g
theorem lcA_gen {MI : DIa} {G : DGx} {MT : DTx} {ME : DEx} {vs : List Nat} {δ : Dl} {μ : Mu} {P : DV} (good : List AV → (Mu → Prop) → Mu → Prop) (h : ∀ C : List AV → (Mu → Prop) → Mu → Prop, (∀ as N μ1, good as N μ1 → C as N μ1) → MI δ μ C)
    (k : ∀ as N μ1, good as N μ1 → mLcA (fun _ _ R => R as N μ1) G MT ME vs δ μ P) : mLcA MI G MT ME vs δ μ P := h _ fun as N μ1 g => k as N μ1 g
theorem lcD_gen {MI : DIx} {G : DGx} {MT : DTx} {ME : DEx} {vs : List Nat} {δ : Dl} {μ : Mu} {P : DV} (good : List PyData → Mu → Prop) (h : ∀ C : List PyData → Mu → Prop, (∀ ds μ1, good ds μ1 → C ds μ1) → MI δ μ C)
    (k : ∀ ds μ1, good ds μ1 → mLc (fun _ _ R => R ds μ1) G MT ME vs δ μ P) : mLc MI G MT ME vs δ μ P := h _ fun ds μ1 g => k ds μ1 g
theorem forN_gen {MI : DIn} {G : DGx} {M : DSx} {D : DEnds} {δ : Dl} {μ : Mu} (good : List PyData → (Mu → Prop) → Mu → Prop) (h : ∀ C : List PyData → (Mu → Prop) → Mu → Prop, (∀ ds N μ1, good ds N μ1 → C ds N μ1) → MI δ μ C)
    (k : ∀ ds N μ1, good ds N μ1 → mForN (fun _ _ R => R ds N μ1) G M D δ μ) : mForN MI G M D δ μ := h _ fun ds N μ1 g => k ds N μ1 g
theorem forA_gen {MI : DIa} {G : DGx} {M : DSx} {D : DEnds} {δ : Dl} {μ : Mu} (good : List AV → (Mu → Prop) → Mu → Prop) (h : ∀ C : List AV → (Mu → Prop) → Mu → Prop, (∀ as N μ1, good as N μ1 → C as N μ1) → MI δ μ C)
    (k : ∀ as N μ1, good as N μ1 → mForA (fun _ _ R => R as N μ1) G M D δ μ) : mForA MI G M D δ μ := h _ fun as N μ1 g => k as N μ1 g
theorem forD_gen {MI : DIx} {G : DGx} {M : DSx} {D : DEnds} {δ : Dl} {μ : Mu} (good : List PyData → Mu → Prop) (h : ∀ C : List PyData → Mu → Prop, (∀ ds μ1, good ds μ1 → C ds μ1) → MI δ μ C)
    (k : ∀ ds μ1, good ds μ1 → mFor (fun _ _ R => R ds μ1) G M D δ μ) : mFor MI G M D δ μ := h _ fun ds μ1 g => k ds μ1 g
/-! walks over data of one form -/
section
variable {α : Type}
theorem tk_filter (p : α → Bool) {xs : List α} {i : Nat} {x : α} (h : xs[i]? = some x) : (xs.take (i + 1)).filter p = (xs.take i).filter p ++ if p x = true then [x] else [] := by
  rw [List.take_add_one, h, Option.toList_some, List.filter_append]
  by_cases c : p x = true <;> simp [c]
theorem lc_T {MI : DIx} {G : DGx} {MT : DTx} {ME : DEx} {vs : List Nat} {δ : Dl} {μ μ1 : Mu} {P : DV} (xs : List α) (e : α → PyData) (p : α → Bool) (f : α → PyData) (hi : ∀ R : List PyData → Mu → Prop, R (xs.map e) μ1 → MI δ μ R) (hz : xs.length ≤ sizeLine)
    (turn : ∀ x ∈ xs, ∀ (μ' : Mu) (R1 : AV → Mu → Prop) (R0 : Mu → Prop), (∀ b, μ1 b ≠ none → μ' b = μ1 b) → (p x = true → R1 (.dat (f x)) μ') → (p x = false → R0 μ') → G (.dat (e x)) (wipeD δ vs) μ' fun δ2 μ2 => MT δ2 μ2 fun b μ3 => if b = true then ME δ2 μ3 R1 else R0 μ3)
    (done : P (.dat (.list ((xs.filter p).map f))) μ1) : mLc MI G MT ME vs δ μ P := by
  refine hi _ ⟨by rw [List.length_map]; exact hz, fun D hD => ⟨fun i acc μ' => acc = ((xs.take i).filter p).map f ∧ μ' = mset μ1 D (cellA acc), ⟨by simp, rfl⟩, fun i d acc μ' hd ⟨ea, hf⟩ hc => ?_, fun acc μ' ⟨ea, hf⟩ _ => ?_⟩⟩
  · rw [List.getElem?_map] at hd
    obtain ⟨x, hx, rfl⟩ := Option.map_eq_some_iff.mp hd
    refine turn x (List.mem_of_getElem? hx) μ' _ _ (fun b hb => by rw [hf, mset_ne fun z => hb (by rw [z]; exact hD)]) (fun hp => ⟨_, rfl, hc, ?_, by rw [hf, mset_mset]⟩) fun hp => ⟨hc, ?_, hf⟩
    · rw [tk_filter p hx, if_pos hp, List.map_append, ← ea]; rfl
    · rw [tk_filter p hx, if_neg (by rw [hp]; exact Bool.false_ne_true), List.append_nil, ← ea]
  · rw [List.length_map, List.take_length] at ea
    rw [hf, mset_none hD, ea]
    exact done
theorem lcA_T {MI : DIx} {G : DGx} {MT : DTx} {ME : DEx} {vs : List Nat} {δ : Dl} {μ μ1 : Mu} {P : DV} (xs : List α) (e : α → PyData) (p : α → Bool) (f : α → PyData) (hi : ∀ R : List PyData → Mu → Prop, R (xs.map e) μ1 → MI δ μ R) (hz : xs.length ≤ sizeLine)
    (turn : ∀ x ∈ xs, ∀ (μ' : Mu) (R1 : AV → Mu → Prop) (R0 : Mu → Prop), (∀ b, μ1 b ≠ none → μ' b = μ1 b) → (p x = true → R1 (.dat (f x)) μ') → (p x = false → R0 μ') → G (.dat (e x)) (wipeD δ vs) μ' fun δ2 μ2 => MT δ2 μ2 fun b μ3 => if b = true then ME δ2 μ3 R1 else R0 μ3)
    (done : ∀ D, μ1 D = none → P (.mut D) (mset μ1 D (cellA ((xs.filter p).map f)))) : mLcA (miD MI) G MT ME vs δ μ P := by
  refine hi _ ⟨by rw [List.length_map, List.length_map]; exact hz, fun D hD => ⟨fun i acc μ' => acc = (((xs.take i).filter p).map f).map AV.dat ∧ μ' = mset μ1 D (some (.lst acc)), ⟨by simp, rfl⟩, fun i d acc μ' hd ⟨ea, hf⟩ hc => ⟨trivial, ?_⟩, fun acc μ' ⟨ea, hf⟩ _ => ⟨trivial, ?_⟩⟩⟩
  · rw [List.getElem?_map, List.getElem?_map, Option.map_map] at hd
    obtain ⟨x, hx, rfl⟩ := Option.map_eq_some_iff.mp hd
    refine turn x (List.mem_of_getElem? hx) μ' _ _ (fun b hb => by rw [hf, mset_ne fun z => hb (by rw [z]; exact hD)]) (fun hp => ⟨hc, ?_, by rw [hf, mset_mset]⟩) fun hp => ⟨hc, ?_, hf⟩
    · rw [tk_filter p hx, if_pos hp, List.map_append, List.map_append, ← ea]; rfl
    · rw [tk_filter p hx, if_neg (by rw [hp]; exact Bool.false_ne_true), List.append_nil, ← ea]
  · rw [List.length_map, List.length_map, List.take_length] at ea
    rw [hf, ea]
    exact done D hD
/-- a walk over a list that's a cell; fz: what comes out is data -/
theorem lcN_T {fz : Bool} {G : DGx} {MT : DTx} {ME : DEx} {vs : List Nat} {δ : Dl} {μ μ1 : Mu} {P : DV} (xs : List α) (e : α → PyData) (p : α → Bool) (f : α → PyData) (N : Mu → Prop) (hN : ∀ μ', (∀ b, μ1 b ≠ none → μ' b = μ1 b) → N μ') (hz : xs.length ≤ sizeLine)
    (turn : ∀ x ∈ xs, ∀ (μ' : Mu) (R1 : AV → Mu → Prop) (R0 : Mu → Prop), (∀ b, μ1 b ≠ none → μ' b = μ1 b) → (p x = true → R1 (.dat (f x)) μ') → (p x = false → R0 μ') → G (.dat (e x)) (wipeD δ vs) μ' fun δ2 μ2 => MT δ2 μ2 fun b μ3 => if b = true then ME δ2 μ3 R1 else R0 μ3)
    (done : if fz = true then P (.dat (.list ((xs.filter p).map f))) μ1 else ∀ D, μ1 D = none → P (.mut D) (mset μ1 D (cellA ((xs.filter p).map f)))) : mLcN fz (fun _ _ R => R (xs.map e) N μ1) G MT ME vs δ μ P := by
  refine ⟨by rw [List.length_map]; exact hz, fun D hD => ⟨fun i acc μ' => acc = ((xs.take i).filter p).map f ∧ μ' = mset μ1 D (cellA acc), ⟨by simp, rfl⟩, fun i d acc μ' hd ⟨ea, hf⟩ hc => ?_, fun acc μ' ⟨ea, hf⟩ _ => ?_⟩⟩
  · have fr : ∀ b, μ1 b ≠ none → μ' b = μ1 b := fun b hb => by rw [hf, mset_ne fun z => hb (by rw [z]; exact hD)]
    rw [List.getElem?_map] at hd
    obtain ⟨x, hx, rfl⟩ := Option.map_eq_some_iff.mp hd
    refine ⟨hN _ fr, turn x (List.mem_of_getElem? hx) μ' _ _ fr (fun hp => ⟨_, rfl, hc, ?_, by rw [hf, mset_mset]⟩) fun hp => ⟨hc, ?_, hf⟩⟩
    · rw [tk_filter p hx, if_pos hp, List.map_append, ← ea]; rfl
    · rw [tk_filter p hx, if_neg (by rw [hp]; exact Bool.false_ne_true), List.append_nil, ← ea]
  · rw [List.length_map, List.take_length] at ea
    refine ⟨hN _ fun b hb => by rw [hf, mset_ne fun z => hb (by rw [z]; exact hD)], ?_⟩
    rw [ea] at hf
    cases fz with
    | true =>
      rw [if_pos rfl] at done ⊢
      rw [hf, mset_none hD, ea]
      exact done
    | false =>
      rw [if_neg Bool.false_ne_true] at done ⊢
      rw [hf]
      exact done D hD
/-- a loop over items that are known -/
theorem for_T {MI : DIx} {G : DGx} {M : DSx} {D : DEnds} {δ : Dl} {μ μ1 : Mu} (xs : List α) (e : α → PyData) (hi : ∀ R : List PyData → Mu → Prop, R (xs.map e) μ1 → MI δ μ R) (W : Nat → Dl → Mu → Prop) (h0 : W 0 δ μ1)
    (turn : ∀ i x δ' μ', xs[i]? = some x → W i δ' μ' → G (.dat (e x)) δ' μ' fun δ2 μ2 => M { D with nx := W (i + 1), ct := W (i + 1), bk := D.nx } δ2 μ2) (done : ∀ δ' μ', W xs.length δ' μ' → D.nx δ' μ') : mFor MI G M D δ μ :=
  hi _ ⟨W, h0, fun i d δ' μ' hd w => by
    rw [List.getElem?_map] at hd
    obtain ⟨x, hx, rfl⟩ := Option.map_eq_some_iff.mp hd
    exact turn i x δ' μ' hx w, fun δ' μ' w => by rw [List.length_map] at w; exact done δ' μ' w⟩
end
/-! what a promise tells, as data -/
def Frz (a : AV) (μ : Mu) (a' : AV) (μ' : Mu) : Prop := ∀ (K : PySem.W.Frag) (H : Hp) (v : V), HM K H μ → RelA K (hid H μ) v a → HM K H μ' ∧ Same (hid H μ) (hid H μ') ∧ RelA K (hid H μ') v a'
theorem frz_lst {μ : Mu} {p : Addr} {ds : List PyData} (h : μ p = some (.lst (ds.map AV.dat))) : Frz (.mut p) μ (.dat (.list ds)) (mset μ p none) := fun K H v hm r => by
  cases (show v = V.ref p from r)
  exact ⟨hm.freeze p, hid_freeze p, dp_freeze hm h⟩
theorem frz_pair {μ : Mu} {p q : Addr} {d : PyData} {ds : List PyData} (h : μ p = some (.tup [.dat d, .mut q])) (h2 : μ q = some (.lst (ds.map AV.dat))) : Frz (.mut p) μ (.dat (.tuple [d, .list ds])) (mset (mset μ p none) q none) := fun K H v hm r => by
  cases (show v = V.ref p from r)
  have ne : q ≠ p := fun z => by rw [z, h] at h2; cases h2
  obtain ⟨xs, g1, g2⟩ := hm.tup h
  have hm1 := hm.freeze p
  have h2' : mset μ p none q = some (.lst (ds.map AV.dat)) := by rw [mset_ne ne]; exact h2
  have s : Same (hid H μ) (hid H (mset (mset μ p none) q none)) := (hid_freeze p).trans (hid_freeze q)
  refine ⟨hm1.freeze q, s, ?_⟩
  cases g2 with
  | cons a1 a2 =>
    cases a2 with
    | cons b1 b2 =>
      cases b2
      cases (show _ = V.ref q from b1)
      refine .tup (.inl (.inl ?_)) (.cons (dp_mono s a1) (.cons (dp_freeze hm1 h2') .nil))
      rw [hid_none (by rw [mset_ne ne.symm, mset_same])]
      exact g1
theorem Prm.via {P : Program} {w : World} {K : PySem.W.Frag} {mg : Str → Option Value} {base : Heap} {k n : Nat} {x : Str} {d d' : DOs} (q : Prm P w K mg base k x n d) (h : ∀ as μ Q, d' as μ Q → d as μ fun a μ1 => ∃ a' μ', Frz a μ1 a' μ' ∧ Q a' μ') : Prm P w K mg base k x n d' := by
  obtain ⟨⟨f, fd, ps, F, r⟩, hl⟩ := q
  have up : ∀ vs H Q, spOf K n d' vs H Q → spOf K n d vs H Q := fun vs H Q ⟨e, as, μ, P', hm, ra, m, c⟩ => ⟨e, as, μ, _, hm, ra, h as μ P' m, fun v H' a μ' s hm' rv ⟨a', μ2, z, q⟩ => by
    obtain ⟨z1, z2, z3⟩ := z K H' v hm' rv
    exact c v H' a' μ2 (s.trans z2) z1 z3 q⟩
  exact ⟨⟨f, fd, ps, ⟨fun vs H Q z => F.len vs H Q (up vs H Q z), fun A out s H args us vs Q hr hg e0 hb rv z => F.go A out s H args us vs Q hr hg e0 hb rv (up vs H Q z)⟩, r⟩, fun as μ Q z => hl as μ _ (h as μ Q z)⟩
end DL

set_option maxHeartbeats 4000000
/-! zip of a list and a tuple, in any order -/
namespace DL
open PySem PySem.Spec PyProof.Rows L2 RZ PySem.W
/-- a list, or a tuple -/
inductive Sk where
  | L | T
def Sk.sq (K : PySem.W.Frag) : Sk → Hp → Addr → List V → Prop
  | .L => SqL K
  | .T => SqT K
def Sk.at : Sk → Heap → Addr → Array Value → Prop
  | .L => Heap.IsList
  | .T => Heap.IsTuple
def Sk.it : Sk → Heap → Addr → Addr → Nat → Prop
  | .L => Heap.IsListIter
  | .T => Heap.IsTupleIter
def Sk.nm : Sk → String
  | .L => "list_iterator"
  | .T => "tuple_iterator"
/-- its iterator, as it's made -/
abbrev Sk.new (k : Sk) (l : Addr) : Obj := { cls := .type k.nm, data := .fields #[.ref l, .int 0 0] }
theorem Sk.begin (k : Sk) {h : Heap} {i l : Addr} (e : h.get? i = some (k.new l)) : k.it h i l 0 := by cases k <;> exact ⟨_, e, rfl, rfl⟩
theorem Sk.lt (k : Sk) {h : Heap} {l : Addr} {xs : Array Value} (e : k.at h l xs) : l < h.objs.size := by
  cases k
  · obtain ⟨o, g, _⟩ : ∃ o, h.get? l = some o ∧ _ := e
    exact Heap.lt_size g
  · obtain ⟨o, g, _⟩ : ∃ o, h.get? l = some o ∧ _ := e
    exact Heap.lt_size g
theorem Sk.it_obj (k : Sk) {h : Heap} {i l : Addr} {n : Nat} (e : k.it h i l n) : ∃ o, h.get? i = some o ∧ ∀ v, o.data ≠ .cell v := by
  cases k <;> (obtain ⟨o, g, _, d⟩ := e; exact ⟨o, g, fun v z => by rw [d] at z; cases z⟩)
theorem Sk.it_keep (k : Sk) {h h' : Heap} {i l : Addr} {n : Nat} (e : k.it h i l n) (q : ∀ o, h.get? i = some o → h'.get? i = some o) : k.it h' i l n := by
  cases k
  · exact Heap.IsListIter.at e q
  · exact Heap.IsTupleIter.at e q
theorem Sk.draws {prog : Program} {w : World} {A : Around} (k : Sk) (hh : A.handled = none) (i l : Addr) (ne : l ≠ i) (xs : Array Value) : Draws prog w A i [i, l] xs.size (fun j v => xs[j]? = some v) (fun j h => k.it h i l j ∧ k.at h l xs) := by
  cases k
  · exact Draws.list hh i l ne xs
  · exact Draws.tuple hh i l ne xs
theorem Sk.inv (k : Sk) {X : Cx} {pins : List (Addr × Obj)} {σ : L2.St} {H : Hp} {s : Shared} {a : Addr} {xs : List V} (I : Inv X pins σ H s) (h : k.sq X.K H a xs) : ∃ its : List Value, Vals xs its ∧ k.at s.heap a its.toArray := by
  cases k
  · obtain ⟨its, rv, hl, _⟩ := I.list h
    exact ⟨its, rv, hl.isList⟩
  · obtain ⟨its, rv, hl, _⟩ := I.tuple h
    exact ⟨its, rv, hl⟩
theorem Sk.one (k : Sk) {X : Cx} {pins : List (Addr × Obj)} {σ : L2.St} {H : Hp} {s : Shared} {a : Addr} {xs ys : List V} (I : Inv X pins σ H s) (h : k.sq X.K H a xs) (h' : k.sq X.K H a ys) : xs = ys := by
  cases k
  · exact I.list_inj h h'
  · exact I.tuple_inj h h'
/-- both at each turn, their items in new pairs -/
def ItM (K : PySem.W.Frag) (k1 k2 : Sk) (a b : Addr) : It :=
  ⟨fun i H => ∃ (xs ys : List V) (x y : V), k1.sq K H a xs ∧ k2.sq K H b ys ∧ xs[i]? = some x ∧ ys[i]? = some y,
    fun i H v H' => ∃ T x y, v = .ref T ∧ H T = none ∧ H' = upd H T (.tup [x, y]) ∧ (∀ xs, k1.sq K H a xs → xs[i]? = some x) ∧ ∀ ys, k2.sq K H b ys → ys[i]? = some y,
    fun i H => ∃ xs ys : List V, k1.sq K H a xs ∧ k2.sq K H b ys ∧ i ≤ xs.length ∧ i ≤ ys.length ∧ (i = xs.length ∨ i = ys.length)⟩
theorem sep2 {z TI TO i1 i2 a b : Addr} (D : ZipApart z TI TO i1 i2 a b) (h1 : a ≠ i2) (h2 : b ≠ i1) (a1 : a ≠ z) (a2 : a ≠ TO) (b1 : b ≠ z) (b2 : b ≠ TO) : ZipSep2 z TI TO i1 i2 [i1, a] [i2, b] where
  TIz := D.TIz
  TOz := D.TOz
  TITO := D.TITO
  TIi1 := D.TIi1
  mem1 := List.mem_cons_self
  zf1 := by simp [D.i1z.symm, a1.symm]
  Tf1 := by simp [D.TOi1, a2.symm]
  TIi2 := D.TIi2
  mem2 := List.mem_cons_self
  zf2 := by simp [D.i2z.symm, b1.symm]
  Tf2 := by simp [D.TOi2, b2.symm]
  sep1_2 := by simp [D.i12, h2.symm]
  sep2_1 := by simp [D.i12.symm, h1.symm]
theorem turn_mix {P : Program} {w : World} {K : PySem.W.Frag} {elts : List Expr} {kk : Nat} {tpos : Pos} {a b z TI TO i1 i2 : Addr} (k1 k2 : Sk) (D : ZipSep2 z TI TO i1 i2 [i1, a] [i2, b]) (ai : a ≠ i1) (bi : b ≠ i2) :
    Turn P w K (.Tuple elts kk tpos) (ItM K k1 k2 a b) [z, TI, TO, i1, i2] z (fun i h => IsZip h z TI TO .none ∧ IsTupOf2 h TI (.ref i1) (.ref i2) ∧ (∃ x y, IsTupOf2 h TO x y) ∧ k1.it h i1 a i ∧ k2.it h i2 b i) where
  mem := List.mem_cons_self
  obj := fun i h ⟨g1, g2, ⟨x, y, g3⟩, g4, g5⟩ c hc => by
    simp only [List.mem_cons, List.not_mem_nil, or_false] at hc
    rcases hc with e | e | e | e | e <;> subst e
    · exact ⟨_, g1, fun v q => nomatch q⟩
    · exact ⟨_, g2, fun v q => nomatch q⟩
    · exact ⟨_, g3, fun v q => nomatch q⟩
    · exact k1.it_obj g4
    · exact k2.it_obj g5
  keep := fun i h h' ⟨g1, g2, ⟨x, y, g3⟩, g4, g5⟩ k => ⟨k _ (by simp) _ g1, k _ (by simp) _ g2, ⟨x, y, k _ (by simp) _ g3⟩, k1.it_keep g4 (k _ (by simp)), k2.it_keep g5 (k _ (by simp))⟩
  item := by
    intro X hP hw hK hc i pins s σ H E I hf st hg
    subst hP hw hK
    obtain ⟨g1, g2, ⟨x0, y0, g3⟩, g4, g5⟩ := st
    obtain ⟨xs, ys, x, y, qx, qy, ex, ey⟩ := hg
    obtain ⟨us, rx, px⟩ := k1.inv I qx
    obtain ⟨vs, ry, py⟩ := k2.inv I qy
    obtain ⟨u, hu, ru⟩ := rx.get ex
    obtain ⟨v, hv, rv⟩ := ry.get ey
    have lz : z < s.heap.objs.size := Heap.lt_size g1
    have hh : X.A.in1.handled = none := I.ok.hd hc
    refine wpAny_pyNext_zipD2_item D (k1.draws hh i1 a ai us.toArray) (k2.draws hh i2 b bi vs.toArray) g1 g2 g3 ⟨g4, px⟩ ⟨g5, py⟩ (by rw [List.size_toArray]; exact (List.getElem?_eq_some_iff.mp hu).1) (by rw [List.size_toArray]; exact (List.getElem?_eq_some_iff.mp hv).1) fun u' v' h' tk yu yv z1 z2 s1 s2 made _ kp => ?_
    obtain rfl : u' = u := by
      have q : us[i]? = some u' := by simpa using yu
      rw [hu] at q
      exact (Option.some.inj q).symm
    obtain rfl : v' = v := by
      have q : vs[i]? = some v' := by simpa using yv
      rw [hv] at q
      exact (Option.some.inj q).symm
    refine ⟨_, rfl, wpAny_letOwnedTupleGo_zip (s := { s with heap := h', toks := tk }) z1 fun h'' z3 sb => ?_⟩
    have up : ∀ c o, c ≠ z → h'.get? c = some o → h''.get? c = some o := fun c o ne e => (sb.2 c ne).trans e
    have made2 : h''.get? s.heap.objs.size = some { cls := .type "tuple", data := .seq #[u', v'] } := up _ _ (Nat.ne_of_gt lz) made
    have new : ObjOk X.prog X.w (upd H s.heap.objs.size (.tup [x, y])) h'' s.heap.objs.size (.tup [x, y]) := ⟨by show 2 ≤ sizeLine; decide, [u', v'], .cons ru (.cons rv .nil), ⟨_, made2, rfl, _, rfl⟩⟩
    refine ⟨.ref s.heap.objs.size, _, I.turnedNew (t' := tk) (ch := [z, TI, TO, i1, i2]) (fun c o off e => ?_) hf (Nat.le_refl _) new, rfl, ⟨_, x, y, rfl, I.hok.fresh (Nat.le_refl _), rfl, fun l hl => by rw [k1.one I hl qx]; exact ex, fun l hl => by rw [k2.one I hl qy]; exact ey⟩,
      ⟨z3, up _ _ D.TIz (kp _ _ D.TIz D.TITO D.TIi1 D.TIi2 g2), ⟨u', v', up _ _ D.TOz z2⟩, k1.it_keep s1.1 fun o => up _ o D.zi1.symm, k2.it_keep s2.1 fun o => up _ o D.zi2.symm⟩, fun c hcm => ?_⟩
    · simp only [List.mem_cons, List.not_mem_nil, or_false, not_or] at off
      exact up _ _ off.1 (kp _ _ off.1 off.2.2.1 off.2.2.2.1 off.2.2.2.2 e)
    · have lt : c < s.heap.objs.size := by
        simp only [List.mem_cons, List.not_mem_nil, or_false] at hcm
        rcases hcm with e | e | e | e | e <;> subst e
        · exact lz
        · exact Heap.lt_size g2
        · exact Heap.lt_size g3
        · obtain ⟨_, g, _⟩ := k1.it_obj g4; exact Heap.lt_size g
        · obtain ⟨_, g, _⟩ := k2.it_obj g5; exact Heap.lt_size g
      rw [upd_ne (Nat.ne_of_lt lt)]
      exact (hf c hcm).1
  done := by
    intro X hP hw hK hc i pins s σ H E I hf st hg
    subst hP hw hK
    obtain ⟨g1, g2, ⟨x0, y0, g3⟩, g4, g5⟩ := st
    obtain ⟨xs, ys, qx, qy, le1, le2, hend⟩ := hg
    obtain ⟨us, rx, px⟩ := k1.inv I qx
    obtain ⟨vs, ry, py⟩ := k2.inv I qy
    have e1 : xs.length = us.toArray.size := by rw [List.size_toArray]; exact rx.length
    have e2 : ys.length = vs.toArray.size := by rw [List.size_toArray]; exact ry.length
    have hh : X.A.in1.handled = none := I.ok.hd hc
    refine wpAny_pyNext_zipD2_end D (k1.draws hh i1 a ai us.toArray) (k2.draws hh i2 b bi vs.toArray) g1 g2 g3 ⟨g4, px⟩ ⟨g5, py⟩ (by omega) (by omega) (by omega) fun h' tk kp => ⟨rfl, I.turnedL (t' := tk) (ch := [z, TI, TO, i1, i2]) (fun c o off e => ?_) hf⟩
    simp only [List.mem_cons, List.not_mem_nil, or_false, not_or] at off
    exact kp c o off.1 off.2.2.1 off.2.2.2.1 off.2.2.2.2 e
  self := fun A i s Q E st h => wpAny_pyIter_zip st.1 h
/-! zip(a, b) made -/
abbrev mixH1 (k1 : Sk) (h : Heap) (a : Addr) : Heap := h.push (k1.new a)
abbrev mixH2 (k1 k2 : Sk) (h : Heap) (a b : Addr) : Heap := (mixH1 k1 h a).push (k2.new b)
abbrev mixH3 (k1 k2 : Sk) (h : Heap) (a b : Addr) : Heap := (mixH2 k1 k2 h a b).push { cls := .type "tuple", data := .seq #[.ref h.objs.size, .ref (mixH1 k1 h a).objs.size] }
abbrev mixH4 (k1 k2 : Sk) (h : Heap) (a b : Addr) : Heap := (mixH3 k1 k2 h a b).push { cls := .type "tuple", data := .seq #[.none, .none] }
abbrev mixH5 (k1 k2 : Sk) (h : Heap) (a b : Addr) : Heap := (mixH4 k1 k2 h a b).push { cls := .type "zip", data := .fields #[.none, .bool false, .bool false, .ref (mixH2 k1 k2 h a b).objs.size, .ref (mixH3 k1 k2 h a b).objs.size] }
theorem meets_mix (k1 k2 : Sk) (a b : Addr) (xs ys : Array Value) :
    Meets (Builtin.«zip.__new__» ⟨[.type "zip", .ref a, .ref b], []⟩) (fun _ R s => k1.at s.heap a xs ∧ k2.at s.heap b ys ∧ R (.ok (.ret (.ref (mixH4 k1 k2 s.heap a b).objs.size))) { s with heap := mixH5 k1 k2 s.heap a b }) :=
  .of_wp fun prog w A R s ⟨h1, h2, done⟩ => by
    obtain ⟨hp, g, d, tk, os⟩ := s
    have sub := sub_zip
    cases k1 <;> cases k2
    · have l1 : Heap.IsList (Shared.heap ⟨hp, g, d, tk, os⟩) a xs := h1
      have l2 : Heap.IsList (Shared.heap ⟨hp.push { cls := .type "list_iterator", data := .fields #[.ref a, .int 0 0] }, g, d, tk, os⟩) b ys := Heap.IsList.push h2 _
      wp_walk using wpAny_pyIter_list l1, wpAny_pyIter_list l2
      exact ⟨_, rfl, done⟩
    · have l1 : Heap.IsList (Shared.heap ⟨hp, g, d, tk, os⟩) a xs := h1
      have l2 : Heap.IsTuple (Shared.heap ⟨hp.push { cls := .type "list_iterator", data := .fields #[.ref a, .int 0 0] }, g, d, tk, os⟩) b ys := Heap.IsTuple.push h2 _
      wp_walk using wpAny_pyIter_list l1, wpAny_pyIter_tuple l2
      exact ⟨_, rfl, done⟩
    · have l1 : Heap.IsTuple (Shared.heap ⟨hp, g, d, tk, os⟩) a xs := h1
      have l2 : Heap.IsList (Shared.heap ⟨hp.push { cls := .type "tuple_iterator", data := .fields #[.ref a, .int 0 0] }, g, d, tk, os⟩) b ys := Heap.IsList.push h2 _
      wp_walk using wpAny_pyIter_tuple l1, wpAny_pyIter_list l2
      exact ⟨_, rfl, done⟩
    · have l1 : Heap.IsTuple (Shared.heap ⟨hp, g, d, tk, os⟩) a xs := h1
      have l2 : Heap.IsTuple (Shared.heap ⟨hp.push { cls := .type "tuple_iterator", data := .fields #[.ref a, .int 0 0] }, g, d, tk, os⟩) b ys := Heap.IsTuple.push h2 _
      wp_walk using wpAny_pyIter_tuple l1, wpAny_pyIter_tuple l2
      exact ⟨_, rfl, done⟩
section
variable {prog : Program} {w : World} {A : Around} {E : Value → Shared → Prop} {s : Shared}
theorem call_mix (k1 k2 : Sk) {a b : Addr} {xs ys : Array Value} {Q : Value → Shared → Prop} (h1 : k1.at s.heap a xs) (h2 : k2.at s.heap b ys)
    (fin : ∀ h', IsZip h' (s.heap.objs.size + 4) (s.heap.objs.size + 2) (s.heap.objs.size + 3) .none → IsTupOf2 h' (s.heap.objs.size + 2) (.ref s.heap.objs.size) (.ref (s.heap.objs.size + 1)) → IsTupOf2 h' (s.heap.objs.size + 3) .none .none →
      k1.it h' s.heap.objs.size a 0 → k2.it h' (s.heap.objs.size + 1) b 0 → (∀ c o, s.heap.get? c = some o → h'.get? c = some o) → Q (.ref (s.heap.objs.size + 4)) { s with heap := h' }) :
    wpAny (model prog w) A (call (.type "zip") [.ref a, .ref b]) Q E s := by
  refine callType_new F.called_zip (by decide) (F.typeCall_zip_2 _ _) (F.newCall_zip_2 _ _) (fun obj => F.args_object_init_3 obj _ _) F.entry_zip_new (meets_mix k1 k2 a b xs ys) ⟨h1, h2, ?_⟩
  have up : ∀ {h : Heap} {c : Addr} {o : Obj} (o' : Obj), h.get? c = some o → (h.push o').get? c = some o := fun o' e => Heap.get?_push_of_some _ e
  have n1 : (mixH1 k1 s.heap a).objs.size = s.heap.objs.size + 1 := Heap.size_push ..
  have n2 : (mixH2 k1 k2 s.heap a b).objs.size = s.heap.objs.size + 2 := (Heap.size_push ..).trans (by rw [n1])
  have n3 : (mixH3 k1 k2 s.heap a b).objs.size = s.heap.objs.size + 3 := (Heap.size_push ..).trans (by rw [n2])
  have n4 : (mixH4 k1 k2 s.heap a b).objs.size = s.heap.objs.size + 4 := (Heap.size_push ..).trans (by rw [n3])
  have top : ∀ (h : Heap) (o : Obj), o.isFreed = false → (h.push o).get? h.objs.size = some o := fun h o e => Heap.get?_push_size _ e
  have g5 := top (mixH4 k1 k2 s.heap a b) { cls := .type "zip", data := .fields #[.none, .bool false, .bool false, .ref (mixH2 k1 k2 s.heap a b).objs.size, .ref (mixH3 k1 k2 s.heap a b).objs.size] } rfl
  have g4 := top (mixH3 k1 k2 s.heap a b) { cls := .type "tuple", data := .seq #[.none, .none] } rfl
  have g3 : IsTupOf2 (mixH3 k1 k2 s.heap a b) (s.heap.objs.size + 2) (.ref s.heap.objs.size) (.ref (s.heap.objs.size + 1)) := by
    have e := top (mixH2 k1 k2 s.heap a b) { cls := .type "tuple", data := .seq #[.ref s.heap.objs.size, .ref (mixH1 k1 s.heap a).objs.size] } rfl
    rw [n2] at e
    have f : (Value.ref (s.heap.objs.size + 1)) = .ref (mixH1 k1 s.heap a).objs.size := by rw [n1]
    rw [f]
    exact e
  have g2 := top (mixH1 k1 s.heap a) (k2.new b) rfl
  have g1 := top s.heap (k1.new a) rfl
  show _ ∧ _
  rw [n4, n2, n3] at g5
  rw [n3] at g4
  rw [n1] at g2
  rw [n4]
  have z5 : IsZip (mixH5 k1 k2 s.heap a b) (s.heap.objs.size + 4) (s.heap.objs.size + 2) (s.heap.objs.size + 3) .none := by
    show (Heap.push _ _).get? _ = _
    rw [n2, n3]
    exact g5
  exact ⟨⟨_, z5, rfl⟩, fin _ z5 (up _ (up _ g3)) (up _ g4) (k1.begin (up _ (up _ (up _ (up _ g1))))) (k2.begin (up _ (up _ (up _ g2)))) fun c o e => up _ (up _ (up _ (up _ (up _ e))))⟩
end
def iMix (K : PySem.W.Frag) (k1 k2 : Sk) (ta : TA) : TI := fun σ H R => ta σ H fun vs H1 => ∃ a b xs ys, vs = [.ref a, .ref b] ∧ k1.sq K H1 a xs ∧ k2.sq K H1 b ys ∧ R (ItM K k1 k2 a b) H1
theorem pi_mix {X : Cx} {e e2 : Expr} {ta : TA} {p pos tpos : Pos} {elts : List Expr} {kk : Nat} (k1 k2 : Sk) (hg : Gl X "zip") (hm : X.mg "zip" = none) (ha : PA X [e, e2] ta)
    (hs : starEach [e, e2] X.env = (false, eval e X.env) :: starEach [e2] X.env := by rfl) (hpl : (backTo pos (starEach [e2] X.env)).any (·.1) = false := by rfl) :
    PI X (.Tuple elts kk tpos) (.Call (.Name "zip" p) [e, e2] [] pos) (iMix X.K k1 k2 ta) := by
  refine ⟨fun pins s σ H R I h => Call_ (ld_blt I hg hm PyProof.Rows.boot_zip (PyProof.Rows.callWith_type1 (thn (ha.run pos pins s σ H _ I h) fun us s1 ⟨vs, H1, I1, r1, a, b, xs, ys, ex, qx, qy, q⟩ => ?_) hs hpl))⟩
  subst ex
  obtain ⟨u, v, rfl, ru, rv⟩ := vals2 r1
  obtain rfl : u = Value.ref a := ru
  obtain rfl : v = Value.ref b := rv
  obtain ⟨us, _, px⟩ := k1.inv I1 qx
  obtain ⟨ws, _, py⟩ := k2.inv I1 qy
  have la := k1.lt px
  have lb := k2.lt py
  have D : ZipSep2 (s1.heap.objs.size + 4) (s1.heap.objs.size + 2) (s1.heap.objs.size + 3) s1.heap.objs.size (s1.heap.objs.size + 1) [s1.heap.objs.size, a] [s1.heap.objs.size + 1, b] :=
    sep2 (PySem.W.ktu_apart s1.heap.objs.size a b la lb) (Nat.ne_of_lt (Nat.lt_succ_of_lt la)) (Nat.ne_of_lt lb) (Nat.ne_of_lt (Nat.lt_add_right 4 la)) (Nat.ne_of_lt (Nat.lt_add_right 3 la)) (Nat.ne_of_lt (Nat.lt_add_right 4 lb)) (Nat.ne_of_lt (Nat.lt_add_right 3 lb))
  refine call_mix k1 k2 px py fun h' z1 z2 z3 z4 z5 kp => wpAny_pyIter_zip z1 ?_
  refine ⟨s1.heap.objs.size + 4, [s1.heap.objs.size + 4, s1.heap.objs.size + 2, s1.heap.objs.size + 3, s1.heap.objs.size, s1.heap.objs.size + 1], _, _, H1, rfl, I1.kept (t' := s1.toks) kp,
    turn_mix k1 k2 D (Nat.ne_of_lt la) (Nat.ne_of_lt (Nat.lt_succ_of_lt lb)), ⟨z1, z2, ⟨_, _, z3⟩, z4, z5⟩, fun c hc => ?_, q⟩
  have le : s1.heap.objs.size ≤ c := by
    simp only [List.mem_cons, List.not_mem_nil, or_false] at hc
    rcases hc with e | e | e | e | e <;> rw [e]
    · exact Nat.le_add_right _ _
    · exact Nat.le_add_right _ _
    · exact Nat.le_add_right _ _
    · exact Nat.le_refl _
    · exact Nat.le_add_right _ _
  exact I1.fpOk le (I1.hok.fresh le)
/-! as a walk over data -/
def Sk.dat : Sk → List PyData → PyData
  | .L => .list
  | .T => .tuple
theorem Sk.of_dat {K : PySem.W.Frag} {H : Hp} (k : Sk) {v : V} {ds : List PyData} (r : RelA K H v (.dat (k.dat ds))) : ∃ p xs, v = .ref p ∧ (∀ H', Same H H' → k.sq K H' p xs) ∧ DpAll K0 H xs ds := by
  cases k
  · obtain ⟨p, xs, e, h, q⟩ := dp_list r
    exact ⟨p, xs, e, fun H' s => .inl (rd_mono s h), q⟩
  · obtain ⟨p, xs, e, h, q⟩ := dp_tuple r
    exact ⟨p, xs, e, fun H' s => .inl (rd_mono s h), q⟩
def miMix (k1 k2 : Sk) (MA : DAx) : DIx := fun δ μ P => MA δ μ fun as μ1 => ∃ ds es, as = [.dat (k1.dat ds), .dat (k2.dat es)] ∧ P (zipD ds es) μ1
theorem zipD_at {ds es : List PyData} {i : Nat} : (zipD ds es)[i]? = match ds[i]?, es[i]? with
  | some d, some e => some (.tuple [d, e])
  | _, _ => none := by
  unfold zipD
  rw [List.getElem?_zipWith]
  cases ds[i]? <;> cases es[i]? <;> rfl
theorem zipD_len {ds es : List PyData} : (zipD ds es).length = min ds.length es.length := List.length_zipWith
theorem wk_mix {K : PySem.W.Frag} {H : Hp} {μ : Mu} {k1 k2 : Sk} {p q : Addr} {xs ys : List V} {ds es : List PyData} (h1 : ∀ H', Same (hid H μ) H' → k1.sq K H' p xs) (r1 : DpAll K0 (hid H μ) xs ds) (h2 : ∀ H', Same (hid H μ) H' → k2.sq K H' q ys) (r2 : DpAll K0 (hid H μ) ys es) : DWk K (ItM K k1 k2 p q) (zipD ds es) H μ where
  goes := fun i H1 μ1 hi e => by
    rw [zipD_len] at hi
    obtain ⟨x, hx, _⟩ := dpAll_get r1 (List.getElem?_eq_getElem (show i < ds.length by omega))
    obtain ⟨y, hy, _⟩ := dpAll_get r2 (List.getElem?_eq_getElem (show i < es.length by omega))
    have s := e.trans (hid_same H1 μ1)
    exact ⟨xs, ys, x, y, h1 _ s, h2 _ s, hx, hy⟩
  stops := fun H1 μ1 e => by
    have s := e.trans (hid_same H1 μ1)
    have e1 := dpAll_len r1
    have e2 := dpAll_len r2
    rw [zipD_len]
    exact ⟨xs, ys, h1 _ s, h2 _ s, by omega, by omega, by omega⟩
  yields := fun i H1 μ1 x H' hi e hm ⟨T, u, v, ex, hT, eH, gu, gv⟩ => by
    subst ex eH
    have s := e.trans (hid_same H1 μ1)
    obtain ⟨d, hd, rd⟩ := dpAll_getV r1 (gu xs (h1 _ s))
    obtain ⟨c, hc, rc⟩ := dpAll_getV r2 (gv ys (h2 _ s))
    refine ⟨.tuple [d, c], by rw [zipD_at, hd, hc], hid_new hm hT _, hm.new hT _, ?_⟩
    have rr := rel_tup (K := K) hm hT (xs := [u, v]) (ds := [d, c]) (.cons (dp_mono e rd) (.cons (dp_mono e rc) .nil))
    exact rr
section
variable {X : Cx} {a b : Expr} {t : TA} {MA : DAx} {p pos tpos : Pos} {elts : List Expr} {kk : Nat}
theorem di_mixE (k1 k2 : Sk) (gl : Gl X "zip") (hm : X.mg "zip" = none) (h : DA X [a, b] t MA) (hs : starEach [a, b] X.env = (false, eval a X.env) :: starEach [b] X.env := by rfl) (hpl : (backTo pos (starEach [b] X.env)).any (·.1) = false := by rfl) :
    DI X (.Tuple elts kk tpos) (.Call (.Name "zip" p) [a, b] [] pos) (iMix X.K k1 k2 t) (miMix k1 k2 MA) := ⟨pi_mix k1 k2 gl hm h.pa hs hpl, fun σ H R δ μ P Rl hm m c => h.sa σ H _ δ μ _ Rl hm m fun xs H1 as μ1 e1 hm1 r1 ⟨ds, es, ea, m1⟩ => by
  subst ea
  obtain ⟨v, w, rfl, rv, rw'⟩ := relAs2 r1
  obtain ⟨p1, x1, rfl, g1, a1⟩ := k1.of_dat rv
  obtain ⟨p2, x2, rfl, g2, a2⟩ := k2.of_dat rw'
  exact ⟨p1, p2, x1, x2, rfl, g1 _ (hid_same _ _), g2 _ (hid_same _ _), c _ H1 _ μ1 e1 hm1 (wk_mix g1 a1 g2 a2) m1⟩⟩
end
end DL

set_option maxHeartbeats 4000000
/-! one dict's pairs put into another; a dict anew; its pairs as data -/
namespace DL
open PySem PySem.Spec PyProof.Rows L2 RZ PySem.W
section
variable {X : Cx} {pins : List (Addr × Obj)} {σ : L2.St} {H : Hp} {s : Shared} {a b : Addr} {kvs more : List (Key × V)} {A : Around} {E : Value → Shared → Prop}
theorem merge_len : ∀ (more kvs : List (Key × V)), (mergeK kvs more).length ≤ kvs.length + more.length := fun more kvs => length_mergeK more kvs
/-- d.update(e), both dicts -/
theorem run_update {Q : Value → Shared → Prop} (I : Inv X pins σ H s) (e : H a = some (.dK kvs)) (e2 : H b = some (.dK more)) (ne : a ≠ b) (hz : kvs.length + more.length ≤ sizeLine)
    (h : ∀ s', Inv X pins σ (upd H a (.dK (mergeK kvs more))) s' → Q .none s') : wpAny (model X.prog X.w) A (call (.builtin "dict.update") [.ref a, .ref b]) Q E s := by
  obtain ⟨z1, hd1, vs1, rel1, dd1⟩ := dk_of I.hok e
  obtain ⟨z2, hd2, vs2, rel2, dd2⟩ := dk_of I.hok e2
  refine call_meetsIn PySem.F.slot_dict_update dd1.typeIs PySem.F.entry_dict_update (PySem.F.args_dict_update_2 _ _) (meets_dict_update (mixKind X.prog X.w) a b ne hd2)
    ⟨vs1, vs2, dd1, dd2, by rw [← rel1.length, ← rel2.length]; exact hz, fun h' dd' _ hs => h _ ?_⟩
  have he : ∃ q, h'.get? a = some q := let ⟨q, _, _, hq, _⟩ := dd'; ⟨q, hq⟩
  exact d_write I (by rw [e]; exact True.intro) hs he (dk_new (Nat.le_trans (merge_len more kvs) hz) hd1 (KV.merge rel2 rel1) dd')
variable {o f : Expr} {to tf : TE} {apos cpos : Pos}
def tUpdate (to tf : TE) : TE := fun σ H Q => to σ H fun x H1 => ∃ a, x = .ref a ∧ IsD H1 a ∧ tf σ H1 fun y H2 => ∃ b kvs more, y = .ref b ∧ H2 a = some (.dK kvs) ∧ H2 b = some (.dK more) ∧ a ≠ b ∧ kvs.length + more.length ≤ sizeLine ∧ Q .non (upd H2 a (.dK (mergeK kvs more)))
theorem pe_update (ho : PE X o to) (hf : PE X f tf) (m : M1 X o "update" apos f cpos) : PE X (.Call (.Attribute o "update" apos) [f] [] cpos) (tUpdate to tf) := by
  refine ⟨fun pins s σ H Q I h => ?_⟩
  refine wpAny_Call_method m.base m.few m.line PySem.F.plainAttrs_dict PySem.F.slot_dict_update PySem.F.type_dict_update (thn (ho.run pins s σ H _ I h) fun u s1 ⟨x, H1, I1, rx, a, ex, d, q1⟩ => ?_)
  subst ex
  obtain rfl : u = Value.ref a := rx
  obtain ⟨t1, t2, _⟩ := isD_at I1 d
  refine ⟨t1, t2, ?_⟩
  rw [m.trees]
  refine Calls.callWith_builtin rfl (Calls.evalArgs_plain (Calls.spliced_cons (thn (hf.run pins s1 σ H1 _ I1 q1) fun iv s2 ⟨y, H2, I2, ry, b, kvs, more, ey, ea, eb, ne, hz, q2⟩ => Calls.spliced_nil ?_)))
  subst ey
  obtain rfl : iv = Value.ref b := ry
  exact run_update I2 ea eb ne hz fun s3 I3 => ⟨.non, _, I3, rfl, q2⟩
end
section
variable {X : Cx} {o f : Expr} {to tf : TE} {Mo Mf : DEx} {apos cpos : Pos} {K : PySem.W.Frag}
def joinA (kvs more : List (Key × AV)) : List (Key × AV) := more.foldl (fun acc q => putA acc q.1 q.2) kvs
def mUpdate (Mo Mf : DEx) : DEx := fun δ μ P => Mo δ μ fun x μ1 => ∃ p, x = .mut p ∧ (∃ ks, μ1 p = some (.dK ks)) ∧ Mf δ μ1 fun y μ2 => ∃ q kvs more, y = .mut q ∧ μ2 p = some (.dK kvs) ∧ μ2 q = some (.dK more) ∧ p ≠ q ∧ kvs.length + more.length ≤ sizeLine ∧ P (.dat .none) (mset μ2 p (some (.dK (joinA kvs more))))
theorem de_update (ho : DE X o to Mo) (hf : DE X f tf Mf) (m : M1 X o "update" apos f cpos) : DE X (.Call (.Attribute o "update" apos) [f] [] cpos) (tUpdate to tf) (mUpdate Mo Mf) := ⟨pe_update ho.pe hf.pe m, fun σ H Q δ μ P R hm m c =>
  ho.se σ H _ δ μ _ R hm m fun x H1 av μ1 e1 hm1 r1 ⟨p, ea, ⟨ks, hks⟩, m1⟩ => by
    subst ea
    obtain ⟨ws, hw, _⟩ := hm1.dk hks
    refine ⟨p, r1, .inl ⟨ws, .inl hw⟩, hf.se σ H1 _ δ μ1 _ (R.mono e1) hm1 m1 fun y H2 bv μ2 e2 hm2 r2 ⟨q, kvs, more, eb, hp, hq, ne, hz, m2⟩ => ?_⟩
    subst eb
    obtain ⟨us, h1, h2⟩ := hm2.dk hp
    obtain ⟨vs, g1, g2⟩ := hm2.dk hq
    have hh : hid H2 μ2 p = none := hid_cell hp
    refine ⟨q, us, vs, r2, h1, g1, ne, by rw [pk_len h2, pk_len g2]; exact hz, c .non _ (.dat .none) _ ?_ (hm2.storeK hh (pk_fold g2 h2)) rN m2⟩
    rw [hid_store hh]
    exact e1.trans e2⟩
/-- dict(d) -/
theorem cr_dictCopy : CallR X (.type "dict") fun xs H Q => ∃ (a : Addr) (us : List (Key × V)), xs = [.ref a] ∧ H a = some (.dK us) ∧ ∀ p, H p = none → Q (.ref p) (upd H p (.dK us)) := by
  intro pins s σ H xs us Q I r ⟨a, ks, ex, ha, q⟩
  subst ex
  obtain ⟨u, eu, rx⟩ := vals1 r
  subst eu
  cases rx
  exact d_copyOf I (.inl ha) fun p s' hp I' => ⟨.ref p, _, I', rfl, q p hp⟩
def oDictD : DO1 := fun a μ P => ∃ q kvs, a = .mut q ∧ μ q = some (.dK kvs) ∧ ∀ p, μ p = none → P (.mut p) (mset μ p (some (.dK kvs)))
theorem so_dictD : SO1 K (fun x H Q => ∃ (a : Addr) (us : List (Key × V)), [x] = [.ref a] ∧ H a = some (.dK us) ∧ ∀ p, H p = none → Q (.ref p) (upd H p (.dK us))) oDictD := fun x H Q a μ P hm rx ⟨q, kvs, e1, hq, g⟩ c => by
  subst e1
  obtain ⟨us, h1, h2⟩ := hm.dk hq
  refine ⟨q, us, by rw [show x = .ref q from rx], h1, fun p n => ?_⟩
  have hp : hid H μ p = none := by rw [hid_none (hm.ne n)]; exact n
  refine c _ _ (.mut p) _ ?_ (hm.storeK hp h2) rfl (g p (hm.ne n))
  rw [hid_store hp]
  exact Same.refl _
/-- list(l), l a cell -/
def oListC : DO1 := fun a μ P => ∃ q as, a = .mut q ∧ μ q = some (.lst as) ∧ ∀ p, μ p = none → P (.mut p) (mset μ p (some (.lst as)))
theorem so_listC : SO1 K (fun x H Q => ∃ p ys, [x] = [V.ref p] ∧ (SqL K H p ys ∨ SqT K H p ys) ∧ ∀ l, H l = none → Q (.ref l) (upd H l (.lst ys))) oListC := fun x H Q a μ P hm rx ⟨q, as, e1, hq, g⟩ c => by
  subst e1
  obtain ⟨xs, h1, h2⟩ := hm.lst hq
  refine ⟨q, xs, by rw [show x = .ref q from rx], .inl (.inl (.inl h1)), fun p n => ?_⟩
  have hp : hid H μ p = none := by rw [hid_none (hm.ne n)]; exact n
  refine c _ _ (.mut p) _ ?_ (hm.store hp h2) rfl (g p (hm.ne n))
  rw [hid_store hp]
  exact Same.refl _
/-- list(d.items()), all values data -/
def mItems (Mo : DEx) : DEx := fun δ μ P => Mo δ μ fun x μ1 => ∃ p, ∃ kvs : List (Key × PyData), x = .mut p ∧ μ1 p = some (.dK (kvs.map fun q => (q.1, AV.dat q.2))) ∧ P (.dat (.list (kvs.map fun q => .tuple [kD q.1, q.2]))) μ1
theorem dp_kD {H : Hp} : ∀ k : Key, Dp K0 H (kV k) (kD k)
  | .inl i => .int i
  | .inr z => .str z
theorem paired_memU {α β : Type} {F G : α → β → Prop} : ∀ {xs : List α} {ys : List β}, (∀ x y, x ∈ xs → F x y → G x y) → Paired F xs ys → Paired G xs ys
  | _, _, _, .nil => .nil
  | _, _, h, .cons a t => .cons (h _ _ List.mem_cons_self a) (paired_memU (fun x y hx => h x y (List.mem_cons_of_mem _ hx)) t)
theorem itemsL_dp {G H' : Hp} (e : ∀ b o, G b = some o → H' b = some o) : ∀ {ts : List Addr} {us : List (Key × V)} {kvs : List (Key × PyData)}, Paired (fun (t : Addr) (q : Key × V) => H' t = some (.tup [kV q.1, q.2])) ts us → PK K G us (kvs.map fun q => (q.1, AV.dat q.2)) →
    DpAll K0 H' (ts.map V.ref) (kvs.map fun q => PyData.tuple [kD q.1, q.2])
  | _, _, [], .nil, _ => .nil
  | _, _, q :: kvs, .cons h t, .cons r rs => .cons (.tup (.inl (.inl h)) (.cons (by rw [show _ = _ from r.1]; exact dp_kD _) (.cons (dp_up (relA_mono (K := K) e r.2)) .nil))) (itemsL_dp e t rs)
theorem de_items {p0 pos : Pos} (hc : X.calm = true) (ho : DE X o to Mo) (hg : Gl X "list") (hm' : X.mg "list" = none) (hbase : attributeBase o "items" X.env (eval o X.env) = eval o X.env := by rfl) (hline : (apos.endLine == cpos.line) = true := by rfl)
    (hs : starEach [.Call (.Attribute o "items" apos) [] [] cpos] X.env = (false, eval (.Call (.Attribute o "items" apos) [] [] cpos) X.env) :: starEach [] X.env := by rfl) :
    DE X (.Call (.Name "list" p0) [.Call (.Attribute o "items" apos) [] [] cpos] [] pos) (LiI.tListItems to) (mItems Mo) := ⟨LiI.pe_listItems hc ho.pe hg hm' (by decide +kernel) hbase hline hs, fun σ H Q δ μ P R hm m c =>
  ho.se σ H _ δ μ _ R hm m fun x H1 av μ1 e1 hm1 r1 ⟨p, kvs, ea, hp, m1⟩ => by
    subst ea
    obtain ⟨us, h1, h2⟩ := hm1.dk hp
    refine ⟨p, us, r1, h1, fun H' l ts keep hl hts nl hl' pr => ?_⟩
    have sm : Same (hid H1 μ1) (hid H' μ1) := fun b o hb => by
      obtain ⟨g1, g2⟩ := hid_some hb
      rw [hid_none g1]
      exact keep b o g2
    have hm2 : HM X.K H' μ1 := hm1.mono sm fun a ha => by
      cases hma : μ1 a with
      | none => rw [hma] at ha; cases ha
      | some mo =>
        have := hm1 a mo hma
        cases mo <;> (obtain ⟨ys, g1, _⟩ := this; rw [g1]; exact keep _ _ g1)
    refine c (.ref l) H' (.dat _) μ1 (e1.trans sm) hm2 ?_ m1
    have nd := itemsL_dp (K := X.K) (G := hid H1 μ1) (H' := hid H' μ1) sm (paired_memU (fun t q ht z => by
      have n1 : μ1 t = none := hm1.ne (hts t ht)
      rw [hid_none n1]; exact z) pr) h2
    refine .lst (.inl (.inl ?_)) nd
    rw [hid_none (hm1.ne hl)]
    exact hl'⟩
theorem de_sliceC {e : Expr} {te : TE} {Me : DEx} {pos : Pos} {lo hi : Option Expr} {tl th : TO} {Ml Mh : DOx} {p2 : Pos} (hK : X.K = K) (he : DE X e te Me) (hl : DP X lo tl Ml) (hh : DP X hi th Mh) : DE X (.Subscript e (.Slice lo hi none p2) pos) (tSl (rSl K) te tl th) (mSl Me Ml Mh) := by
  subst hK
  exact de_slice he hl hh
theorem de_ixL {a b : Expr} {ta tb : TE} {Ma Mb : DEx} {pos : Pos} (ha : DE X a ta Ma) (hb : DE X b tb Mb) (hs : PlainIx b) (hK : X.K = K := by rfl) : DE X (.Subscript a b pos) (tOp (rIx K) ta tb) (mOp oIx Ma Mb) := by
  subst hK
  exact de_ix ha hb hs
theorem di_listC {tg iter : Expr} {te : TE} {Me : DEx} (h : DE X iter te Me) (hK : X.K = K := by rfl) : DI X tg iter (iList K te) (miL Me) := by
  subst hK
  exact di_list h
theorem di_tupC {tg iter : Expr} {te : TE} {Me : DEx} (h : DE X iter te Me) (hK : X.K = K := by rfl) : DI X tg iter (iTup K te) (miT Me) := by
  subst hK
  exact di_tup h
end
/-- for x in told: x.append('..'): all of told's cells one longer, no other cell changed -/
theorem forA_more {i j : Nat} {p : Addr} {cells : List Addr} {z : Str} {δ : Dl} {ν : Mu} {E : DEnds} {n : Nat} (hi : δ[i]? = some (some (.mut p))) (hij : i ≠ j) (hj : j < δ.length) (vp : ν p = some (.lst (cells.map AV.mut))) (np : p ∉ cells) (hn : n + cells.length ≤ sizeLine)
    (hc : ∀ c ∈ cells, ∃ xs, ν c = some (.lst xs) ∧ xs.length < n) (nx : ∀ ν' y, (∀ b, b ∉ cells → ν' b = ν b) → E.nx (δ.set j y) ν') : mForA (miC (mVar i)) (mgName j) (mExpr (mAppend (mVar j) (mCons (mC (.str z)) mNil))) E δ ν := by
  refine ⟨_, hi, p, _, rfl, vp, fun k δ' ν' => (∃ y, δ' = δ.set j y) ∧ (∀ b, b ∉ cells → ν' b = ν b) ∧ ∀ c ∈ cells, ∃ xs, ν' c = some (.lst xs) ∧ xs.length < n + k, ⟨⟨δ[j], by rw [List.set_getElem_self]⟩, fun _ _ => rfl, hc⟩, ?_, ?_⟩
  · rintro k a δ' ν' hk ⟨⟨y, rfl⟩, h1, h2⟩
    rw [List.getElem?_map] at hk
    obtain ⟨c, hck, rfl⟩ := Option.map_eq_some_iff.mp hk
    have hm := List.mem_of_getElem? hck
    have hl : k < cells.length := (List.getElem?_eq_some_iff.mp hck).1
    obtain ⟨xs, g1, g2⟩ := h2 c hm
    refine ⟨(h1 p np).trans vp, ?_⟩
    have hs : ((δ.set j y).set j (some (AV.mut c)))[j]? = some (some (AV.mut c)) := by rw [List.getElem?_set_self (by rw [List.length_set]; exact hj)]
    refine ⟨_, hs, c, xs, rfl, g1, xs, .dat (.str z), rfl, g1, by omega, ⟨some (.mut c), by rw [List.set_set]⟩, fun b hb => ?_, fun b hb => ?_⟩
    · rw [mset_ne fun e => hb (by rw [e]; exact hm)]
      exact h1 b hb
    · by_cases e : b = c
      · subst e
        exact ⟨_, mset_same, by rw [List.length_append, List.length_singleton]; omega⟩
      · rw [mset_ne e]
        obtain ⟨ys, k1, k2⟩ := h2 b hb
        exact ⟨ys, k1, by omega⟩
  · rintro δ' ν' ⟨⟨y, rfl⟩, h1, h2⟩
    exact ⟨(h1 p np).trans vp, nx ν' y h1⟩
end DL

set_option maxHeartbeats 4000000
/-! [..] * number -/
namespace DL
open PySem PySem.Spec PyProof.Rows L2 RZ PySem.W
section
variable {K : PySem.W.Frag}
def oRepL : DO2 := fun a b μ P => ∃ p ds k, a = .mut p ∧ b = .dat (.int k) ∧ μ p = some (.lst (ds.map AV.dat)) ∧ 0 ≤ k ∧ k ≤ 1000 ∧ ds.length ≤ 1000 ∧ P (.dat (.list (List.replicate k.toNat ds).flatten)) μ
theorem so_repL : SO2 K rRep oRepL := fun x y H Q a b μ P hm rx ry ⟨p, ds, k, e1, e2, hp, h0, h1, hz, q⟩ c => by
  subst e1 e2
  obtain ⟨xs, g1, g2⟩ := hm.lst hp
  have a1 := relAs_dat.mpr g2
  have l1 := dpAll_len a1
  have hsl : sizeLine = 16777216 := sizeLine_eq
  refine ⟨p, k, xs, (show x = .ref p from rx), dp_int ry, g1, by omega, by omega, ?_, fun q' n => c.new hm n (rel_lst hm n (dpAll_rep a1 _)) q⟩
  have : xs.length * k.toNat ≤ 1000 * 1000 := Nat.mul_le_mul (by omega) (by omega)
  omega
end
end DL

set_option maxHeartbeats 4000000
/-! a dict that stays while its values are walked -/
namespace DL
open PySem PySem.Spec PyProof.Rows L2 RZ PySem.W
section
variable {X : Cx} {K : PySem.W.Frag} {H : Hp} {μ : Mu}
theorem HM.lkd (h : HM K H μ) {a : Addr} {o : Obj} {us : List (Key × V)} {kvs : List (Key × AV)} (e : μ a = some (.lk o us kvs)) : H a = some (.frz o (.dK us)) ∧ PK K (hid H μ) us kvs := by
  obtain ⟨vs, e1, e2, r⟩ := h a _ e
  subst e2
  exact ⟨e1, r⟩
theorem HM.storeLk (h : HM K H μ) {a : Addr} (ha : hid H μ a = none) {o : Obj} {us : List (Key × V)} {kvs : List (Key × AV)} (r : PK K (hid H μ) us kvs) : HM K (upd H a (.frz o (.dK us))) (mset μ a (some (.lk o us kvs))) := fun b m hb => by
  rw [hid_store ha]
  by_cases e : b = a
  · subst e
    rw [mset_same] at hb
    cases hb
    exact ⟨us, upd_same, rfl, r⟩
  · rw [mset_ne e] at hb
    have q := h b m hb
    cases m <;> (obtain ⟨ys, e1, r1⟩ := q; exact ⟨ys, (upd_ne e).trans e1, r1⟩)
/-- the dict p is locked while M runs -/
def mLockE (M : DEx) : DEx := fun δ μ P => ∃ p kvs, μ p = some (.dK kvs) ∧ ∀ o us, M δ (mset μ p (some (.lk o us kvs))) fun a μ1 => μ1 p = some (.lk o us kvs) ∧ P a (mset μ1 p (some (.dK kvs)))
theorem se_lock {t : TE} {M : DEx} (h : SE K t M) : SE K (tLockE t) (mLockE M) := fun σ H Q δ μ P R hm ⟨p, kvs, hp, m⟩ c => by
  obtain ⟨us, h1, h2⟩ := hm.dk hp
  have hh : hid H μ p = none := hid_cell hp
  refine ⟨p, .dK us, h1, trivial, fun od => ?_⟩
  have hs : hid (upd H p (.frz od (.dK us))) (mset μ p (some (.lk od us kvs))) = hid H μ := hid_store hh _ _
  refine h σ _ _ δ _ _ (by rw [hs]; exact R) (hm.storeLk hh h2) (m od us) fun v H1 a μ1 e1 hm1 r1 ⟨hp1, q⟩ => ?_
  obtain ⟨g1, g2⟩ := hm1.lkd hp1
  have hh1 : hid H1 μ1 p = none := hid_cell hp1
  have hs1 : hid (upd H1 p (.dK us)) (mset μ1 p (some (.dK kvs))) = hid H1 μ1 := hid_store hh1 _ _
  refine ⟨g1, c v _ a _ (by rw [hs1]; rw [hs] at e1; exact e1) (hm1.storeK hh1 g2) (by rw [hs1]; exact r1) q⟩
theorem de_lock {e : Expr} {t : TE} {M : DEx} (h : DE X e t M) : DE X e (tLockE t) (mLockE M) := ⟨pe_lock h.pe, se_lock h.se⟩
def mLockS (M : DSx) : DSx := fun D δ μ => ∃ p kvs, μ p = some (.dK kvs) ∧ ∀ o us, M
  { nx := fun δ' μ' => μ' p = some (.lk o us kvs) ∧ D.nx δ' (mset μ' p (some (.dK kvs))), rt := fun a μ' => μ' p = some (.lk o us kvs) ∧ D.rt a (mset μ' p (some (.dK kvs))),
    bk := fun δ' μ' => μ' p = some (.lk o us kvs) ∧ D.bk δ' (mset μ' p (some (.dK kvs))), ct := fun δ' μ' => μ' p = some (.lk o us kvs) ∧ D.ct δ' (mset μ' p (some (.dK kvs))) } δ (mset μ p (some (.lk o us kvs)))
theorem ds_lock {st : Stmt} {t : TS} {M : DSx} (h : DS X st t M) : DS X st (tLock t) (mLockS M) := ⟨ps_lock h.ps, fun σ H D δ μ DD R hm ⟨p, kvs, hp, m⟩ c => by
  obtain ⟨us, h1, h2⟩ := hm.dk hp
  have hh : hid H μ p = none := hid_cell hp
  refine ⟨p, .dK us, h1, trivial, fun od => ?_⟩
  have hs : hid (upd H p (.frz od (.dK us))) (mset μ p (some (.lk od us kvs))) = hid H μ := hid_store hh _ _
  have back : ∀ {pd : Dl → Mu → Prop} {q : L2.St → Hp → Prop}, EO X.K H μ pd q → EO X.K (upd H p (.frz od (.dK us))) (mset μ p (some (.lk od us kvs))) (fun δ' μ' => μ' p = some (.lk od us kvs) ∧ pd δ' (mset μ' p (some (.dK kvs)))) (fun σ' H' => H' p = some (.frz od (.dK us)) ∧ q σ' (upd H' p (.dK us))) :=
    fun {pd q} ee σ' H' δ' μ' s hm1 R1 ⟨hp1, z⟩ => by
      obtain ⟨g1, g2⟩ := hm1.lkd hp1
      have hh1 : hid H' μ' p = none := hid_cell hp1
      have hs1 : hid (upd H' p (.dK us)) (mset μ' p (some (.dK kvs))) = hid H' μ' := hid_store hh1 _ _
      rw [hs] at s
      exact ⟨g1, ee σ' _ δ' _ (by rw [hs1]; exact s) (hm1.storeK hh1 g2) (by rw [hs1]; exact R1) z⟩
  refine h.ss σ _ _ δ _ _ (by rw [hs]; exact R) (hm.storeLk hh h2) (m od us) ⟨back c.nx, back c.bk, back c.ct, fun v H' a μ' s hm1 r1 ⟨hp1, z⟩ => ?_⟩
  obtain ⟨g1, g2⟩ := hm1.lkd hp1
  have hh1 : hid H' μ' p = none := hid_cell hp1
  have hs1 : hid (upd H' p (.dK us)) (mset μ' p (some (.dK kvs))) = hid H' μ' := hid_store hh1 _ _
  rw [hs] at s
  exact ⟨g1, c.rt v _ a _ (by rw [hs1]; exact s) (hm1.storeK hh1 g2) (by rw [hs1]; exact r1) z⟩⟩
theorem pk_getV {us : List (Key × V)} {kvs : List (Key × AV)} (r : PK K H us kvs) : ∀ {i : Nat} {k : Key} {x : V}, us[i]? = some (k, x) → ∃ a, (kvs.map (·.2))[i]? = some a ∧ RelA K H x a := by
  induction r with
  | nil => intro i k x h; simp at h
  | cons a _ ih =>
    intro i k x h
    cases i with
    | zero =>
      simp at h
      refine ⟨_, rfl, ?_⟩
      have := a.2
      rw [h] at this
      exact this
    | succ i => exact ih (by simpa using h)
/-- the values of a dict that's locked -/
def miV (Me : DEx) : DIa := fun δ μ P => Me δ μ fun x μ1 => ∃ p o us kvs, x = .mut p ∧ μ1 p = some (.lk o us kvs) ∧ P (kvs.map (·.2)) (fun μ => μ p = some (.lk o us kvs)) μ1
variable {tg e : Expr} {te : TE} {Me : DEx} {apos cpos : Pos}
theorem dia_vals (he : DE X e te Me) (hbase : attributeBase e "values" X.env (eval e X.env) = eval e X.env := by rfl) (hline : (apos.endLine == cpos.line) = true := by rfl) : DIA X tg (.Call (.Attribute e "values" apos) [] [] cpos) (iVals te) (miV Me) := ⟨pi_values he.pe hbase hline, fun σ H R δ μ P Rl hm m c => he.se σ H _ δ μ _ Rl hm m fun v H1 a μ1 e1 hm1 r1 ⟨p, o, us, kvs, ea, hp, m1⟩ => by
  subst ea
  cases (show v = .ref p from r1)
  obtain ⟨g1, g2⟩ := hm1.lkd hp
  have hl := pk_len g2
  have at_ : ∀ H μ, HM X.K H μ → μ p = some (.lk o us kvs) → H p = some (.frz o (.dK us)) := fun H μ h e => (h.lkd e).1
  refine ⟨p, o, us, rfl, g1, c _ H1 _ _ μ1 e1 hm1 ⟨fun i H μ hi s h n => ⟨at_ H μ h n, by rw [List.length_map] at hi; omega⟩, fun H μ s h n => ⟨at_ H μ h n, by rw [List.length_map]; omega⟩, fun i H μ x H' hi s h n y => ?_⟩ m1⟩
  obtain ⟨rfl, k, hk⟩ := y
  obtain ⟨a, ha, ra⟩ := pk_getV (h.lkd n).2 hk
  exact ⟨a, ha, Same.refl _, h, ra⟩⟩
end
section
variable {α : Type} {G : DGx} {MT : DTx} {ME Me : DEx} {vs : List Nat} {δ : Dl} {μ : Mu}
theorem unlock {a q : Addr} {m l c : MO} (ha : μ a = some m) (ne : q ≠ a) : mset (mset (mset μ a (some l)) q (some c)) a (some m) = mset μ q (some c) := by
  funext b
  by_cases e : b = a
  · subst e; rw [mset_same, mset_ne ne.symm, ha]
  · by_cases e2 : b = q
    · subst e2; rw [mset_ne e, mset_same, mset_same]
    · rw [mset_ne e, mset_ne e2, mset_ne e, mset_ne e2]
theorem lk_lc {P : DV} (a : Addr) (o : Obj) (us : List (Key × V)) (xs : List α) (key : α → Key) (e : α → PyData) (pr : α → Bool) (f : α → PyData) (hp : μ a = some (.dK (xs.map fun x => (key x, .dat (e x))))) (hz : xs.length ≤ sizeLine)
    (hMe : ∀ (μ' : Mu) (R : DV), (∀ b, b ≠ a → μ' b = μ b) → R (.mut a) μ' → Me δ μ' R)
    (turn : ∀ x ∈ xs, ∀ (μ' : Mu) (R1 : AV → Mu → Prop) (R0 : Mu → Prop), (∀ b, b ≠ a → μ b ≠ none → μ' b = μ b) → (pr x = true → R1 (.dat (f x)) μ') → (pr x = false → R0 μ') → G (.dat (e x)) (wipeD δ vs) μ' fun δ2 μ2 => MT δ2 μ2 fun b μ3 => if b = true then ME δ2 μ3 R1 else R0 μ3)
    (done : ∀ q, μ q = none → P (.mut q) (mset (mset μ a (some (.lk o us (xs.map fun x => (key x, .dat (e x)))))) q (cellA ((xs.filter pr).map f)))) : mLcA (miV Me) G MT ME vs δ (mset μ a (some (.lk o us (xs.map fun x => (key x, .dat (e x)))))) P := by
  refine hMe _ _ (fun b hb => mset_ne hb) ⟨a, o, us, _, rfl, mset_same, by rw [List.length_map, List.length_map]; exact hz, fun q hq => ?_⟩
  have ne : q ≠ a := fun z => by rw [z, mset_same] at hq; cases hq
  have hq' : μ q = none := by rwa [mset_ne ne] at hq
  refine ⟨fun i acc μ' => acc = (((xs.take i).filter pr).map f).map AV.dat ∧ μ' = mset (mset μ a (some (.lk o us (xs.map fun x => (key x, .dat (e x)))))) q (some (.lst acc)), ⟨by simp, rfl⟩, fun i d acc μ' hd ⟨ea, hf⟩ hc => ⟨?_, ?_⟩, fun acc μ' ⟨ea, hf⟩ _ => ⟨?_, ?_⟩⟩
  · show μ' a = _
    rw [hf, mset_ne ne.symm, mset_same]
  · rw [List.getElem?_map, List.getElem?_map, Option.map_map] at hd
    obtain ⟨x, hx, rfl⟩ := Option.map_eq_some_iff.mp hd
    refine turn x (List.mem_of_getElem? hx) μ' _ _ (fun b hb hn => by rw [hf, mset_ne fun z => hn (by rw [z]; exact hq'), mset_ne hb]) (fun hp => ⟨hc, ?_, by rw [hf, mset_mset]⟩) fun hp => ⟨hc, ?_, hf⟩
    · rw [tk_filter pr hx, if_pos hp, List.map_append, List.map_append, ← ea]; rfl
    · rw [tk_filter pr hx, if_neg (by rw [hp]; exact Bool.false_ne_true), List.append_nil, ← ea]
  · show μ' a = _
    rw [hf, mset_ne ne.symm, mset_same]
  · rw [List.length_map, List.length_map, List.take_length] at ea
    rw [hf, ea]
    exact done q hq'
/-- name = [.. for .. in d.values() ..] -/
theorem lockS_lc {i : Nat} {D : DEnds} (a : Addr) (xs : List α) (key : α → Key) (e : α → PyData) (pr : α → Bool) (f : α → PyData) (hp : μ a = some (.dK (xs.map fun x => (key x, .dat (e x))))) (hz : xs.length ≤ sizeLine)
    (hMe : ∀ (μ' : Mu) (R : DV), (∀ b, b ≠ a → μ' b = μ b) → R (.mut a) μ' → Me δ μ' R)
    (turn : ∀ x ∈ xs, ∀ (μ' : Mu) (R1 : AV → Mu → Prop) (R0 : Mu → Prop), (∀ b, b ≠ a → μ b ≠ none → μ' b = μ b) → (pr x = true → R1 (.dat (f x)) μ') → (pr x = false → R0 μ') → G (.dat (e x)) (wipeD δ vs) μ' fun δ2 μ2 => MT δ2 μ2 fun b μ3 => if b = true then ME δ2 μ3 R1 else R0 μ3)
    (done : ∀ q, μ q = none → D.nx (δ.set i (some (.mut q))) (mset μ q (cellA ((xs.filter pr).map f)))) : mLockS (mAsg (mLcA (miV Me) G MT ME vs) (mgName i)) D δ μ :=
  ⟨a, _, hp, fun o us => lk_lc a o us xs key e pr f hp hz hMe turn fun q hq => by
    have ne : q ≠ a := fun z => by rw [z, hp] at hq; cases hq
    refine ⟨by rw [mset_ne ne.symm, mset_same], ?_⟩
    rw [unlock hp ne]
    exact done q hq⟩
/-- .. as an expression -/
theorem lockE_lc {P : DV} (a : Addr) (xs : List α) (key : α → Key) (e : α → PyData) (pr : α → Bool) (f : α → PyData) (hp : μ a = some (.dK (xs.map fun x => (key x, .dat (e x))))) (hz : xs.length ≤ sizeLine)
    (hMe : ∀ (μ' : Mu) (R : DV), (∀ b, b ≠ a → μ' b = μ b) → R (.mut a) μ' → Me δ μ' R)
    (turn : ∀ x ∈ xs, ∀ (μ' : Mu) (R1 : AV → Mu → Prop) (R0 : Mu → Prop), (∀ b, b ≠ a → μ b ≠ none → μ' b = μ b) → (pr x = true → R1 (.dat (f x)) μ') → (pr x = false → R0 μ') → G (.dat (e x)) (wipeD δ vs) μ' fun δ2 μ2 => MT δ2 μ2 fun b μ3 => if b = true then ME δ2 μ3 R1 else R0 μ3)
    (done : ∀ q, μ q = none → P (.mut q) (mset μ q (cellA ((xs.filter pr).map f)))) : mLockE (mLcA (miV Me) G MT ME vs) δ μ P :=
  ⟨a, _, hp, fun o us => lk_lc a o us xs key e pr f hp hz hMe turn fun q hq => by
    have ne : q ≠ a := fun z => by rw [z, hp] at hq; cases hq
    refine ⟨by rw [mset_ne ne.symm, mset_same], ?_⟩
    rw [unlock hp ne]
    exact done q hq⟩
end
end DL

set_option maxHeartbeats 4000000
/-! sorted of a tuple of alike data -/
namespace DL
open PySem PySem.Spec PyProof.Rows L2 RZ PySem.W
section
variable {prog : Program} {w : World} {A : Around} {E : Value → Shared → Prop} {s : Shared}
/-- a tuple's items, gathered in a new list -/
theorem gather_tup {l : Addr} {items : List Value} {Q : List Value → Shared → Prop} (at_ : s.heap.IsTuple l items.toArray) (short : items.length ≤ sizeLine)
    (fin : Q items { s with heap := (s.heap.push (seqObj "list" #[] 0)).update s.heap.objs.size (Obj.mapSeq (· ++ items.toArray)) }) : wpAny (model prog w) A (collect (.ref l)) Q E s := by
  obtain ⟨tup, e1, e2, k, e3⟩ := at_
  have up : (s.heap.push (seqObj "list" #[] 0)).get? l = some tup := Heap.get?_push_of_some _ e1
  have self : (s.heap.push (seqObj "list" #[] 0)).get? s.heap.objs.size = some (seqObj "list" #[] 0) := Heap.get?_push_size _ rfl
  have room : (#[] ++ items.toArray : Array Value).size ≤ sizeLine + 1 := by simp only [Array.size_append, List.size_toArray, List.length_nil]; omega
  have extend : ∀ {R : PySem.Fin → Shared → Prop} {A' : Around} {E' : Value → Shared → Prop}, R (.done (.ret (.ref s.heap.objs.size))) { s with heap := (s.heap.push (seqObj "list" #[] 0)).update s.heap.objs.size (Obj.mapSeq (· ++ items.toArray)) } →
      wpAny (model prog w) A' (Builtin.List.listExtendWith (.ref s.heap.objs.size) (.ref l) (.ref s.heap.objs.size)) R E' { s with heap := s.heap.push (seqObj "list" #[] 0) } := fun {R A' E'} q => by
    unfold Builtin.List.listExtendWith
    refine wpAny_bind (wpAny_typeOf (T := "tuple") ⟨tup, up, e2⟩ ?_)
    have same : (Value.type "tuple" == Value.type "tuple") = true := by rfl
    rw [if_pos (by rw [same, Bool.or_true])]
    refine wpAny_bind (listItems_at up e3 (wpAny_bind (listItems_at (xs := #[]) (n := 0) self rfl ?_)))
    rw [if_neg (by simp)]
    exact wpAny_bind (listUpdate_at (xs := #[]) (n := 0) self rfl (wpAny_pure q) (Nat.zero_le _) room)
  unfold collect
  refine wpAny_bind (wpAny_runValue (codeAny_builtin entry_proto_collect' ?_))
  show wpAny _ _ (do again (.builtin "list.__iadd__" ⟨[← newList [], .ref l], []⟩)) _ _ s
  refine wpAny_bind (wpAny_newList (wpAny_pure ⟨Code.quiet_builtin _ (by decide +kernel), codeAny_builtin entry_list_iadd' (extend ?_)⟩))
  refine wpAny_bind (wpAny_load (get?_update_seq self _) ?_)
  show wpAny _ _ (pure ((#[] : Array Value) ++ items.toArray).toList) Q E _
  rw [show ((#[] : Array Value) ++ items.toArray).toList = items by simp]
  exact wpAny_pure fin
theorem sorted_tup {l : Addr} {items : List Value} {Q : Value → Shared → Prop} {κ : PyProof.Rows.KeyKind} (at_ : s.heap.IsTuple l items.toArray) (so : SortsAt prog w A.in1.in1 { s with heap := sortingHeap (copyHeap s.heap items) (s.heap.objs.size + 1) items } κ items) (short : items.length ≤ sizeLine)
    (fin : Q (.ref (s.heap.objs.size + 1)) { s with heap := sortedAll s.heap items (sortVals κ false items items).toArray }) : wpAny (model prog w) A (call (.builtin "sorted") [.ref l]) Q E s := by
  have next : ((s.heap.push (seqObj "list" #[] 0)).update s.heap.objs.size (Obj.mapSeq (· ++ items.toArray))).objs.size = s.heap.objs.size + 1 := by rw [Heap.size_update]; exact Heap.size_push ..
  refine call_function_entry_kw kind_sorted plain_sorted entry_sorted (args_sorted1 _) ?_
  unfold Builtin.«sorted»
  refine wpAny_bind (m := checkCount "sorted" 1 1 _) (wpAny_pure (wpAny_bind (gather_tup at_ short (wpAny_bind (wpAny_newList ?_ short)))))
  show wpAny _ _ _ _ _ { s with heap := copyHeap s.heap items }
  rw [next]
  refine wpAny_bind (wpAny_holding (wpAny_call_entry_kw slot_list_sort ⟨_, copyHeap_at s.heap items, rfl⟩ entry_list_sort ?run (args_list_sort _)))
  case run =>
    exact list_sort_vals (s := { s with heap := copyHeap s.heap items }) (copyHeap_at s.heap items) so short ⟨_, rfl, wpAny_pure ⟨_, rfl, fin⟩⟩
end
section
variable {X : Cx} {K : PySem.W.Frag}
/-- sorted(t), t a tuple of alike data -/
def rSortT (K : PySem.W.Frag) : List V → Hp → VK → Prop := fun xs H Q => ∃ (l : Addr) (bs : List (PyData × V)), xs = [.ref l] ∧ SqT K H l (bs.map (·.2)) ∧ (∀ b ∈ bs, Dp K H b.2 b.1) ∧ AllAlike (bs.map (·.1)) ∧ Sortable (bs.map (·.1)) ∧ (∀ b ∈ bs, b.1.depth ≤ 60) ∧ bs.length ≤ sizeLine ∧
  ∀ p, H p = none → Q (.ref p) (upd H p (.lst ((bs.mergeSort (dataLe false (·.1))).map (·.2))))
theorem cr_sortTup (hu : X.A.units + 64 < cLine) : CallR X (.builtin "sorted") (rSortT X.K) := by
  intro pins s σ H xs us Q I r ⟨l, bs, e, hs, hd, ha, hk, h60, hz, q⟩
  subst e
  obtain ⟨its, rv, hl, _⟩ := I.tuple hs
  obtain ⟨u, rfl, ru⟩ := vals1 r
  obtain rfl : u = Value.ref l := ru
  have ev := vals_each rv
  have len : its.length = bs.length := ev.length
  have reads := each_with (S := fun v b => ∃ as, Reads s.heap v b.1 as) (fun b hb u ru => Dp.reads I b.1 b.2 u (hd b hb) ru) ev
  have there : EachIs (fun v (b : PyData × V) => ∃ as, Reads (sortingHeap (copyHeap s.heap its) (s.heap.objs.size + 1) its) v b.1 as) its bs := reads.mono fun _ _ ⟨as, rr⟩ => ⟨as, PyProof.Rows.Reads.keeps (fun _ _ => sorting_copy_old) rr⟩
  have deep : ∀ d, d ∈ bs.map (·.1) → X.A.in1.in1.units + d.depth < cLine := fun d hd' => by
    obtain ⟨b, hb, rfl⟩ := List.mem_map.mp hd'
    have := h60 b hb
    show X.A.units + 1 + 1 + b.1.depth < cLine
    omega
  refine sorted_tup (s := s) hl (SortsAt.data (s := { s with heap := sortingHeap (copyHeap s.heap its) (s.heap.objs.size + 1) its }) (each_map (fun b : PyData × V => b.1) there) ha hk deep) (by omega) ?_
  have eo := sortVals_data (enc := fun b : PyData × V => b.1) false ev there ha
  generalize sortVals _ false its its = out at eo ⊢
  obtain ⟨n, hn⟩ := sortedAll_at s.heap its (List.toArray out)
  refine ⟨.ref (s.heap.objs.size + 1), upd H (s.heap.objs.size + 1) (.lst ((bs.mergeSort (dataLe false fun b : PyData × V => b.1)).map (·.2))), I.laid (t' := s.toks) (fun b o e => sortedAll_old e) (Nat.le_succ _) ⟨?_, out, n, each_vals eo, hn⟩, rfl, q _ (I.hok.fresh (Nat.le_succ _))⟩
  have := (each_vals eo).length
  rw [List.length_map, List.length_mergeSort] at *
  omega
def oSortT : DO1 := fun a μ P => ∃ ds, a = .dat (.tuple ds) ∧ AllAlike ds ∧ Sortable ds ∧ (∀ d ∈ ds, d.depth ≤ 60) ∧ ds.length ≤ sizeLine ∧ P (.dat (.list (srtD ds))) μ
theorem so_sortT : SO1 K (fun x H Q => rSortT K [x] H Q) oSortT := fun x H Q a μ P hm rx ⟨ds, e1, hal, hs, h60, hz, p⟩ c => by
  subst e1
  obtain ⟨l, vs, ex, h1, h2⟩ := dp_tuple rx
  have hl := dpAll_len h2
  have z1 : (ds.zip vs).map (·.1) = ds := List.map_fst_zip (by omega)
  have z2 : (ds.zip vs).map (·.2) = vs := List.map_snd_zip (by omega)
  have hb := pairAll h2
  refine ⟨l, ds.zip vs, by rw [ex], by rw [z2]; exact .inl (rd_mono (hid_same H μ) h1), fun b hb' => dp_mono (hid_same H μ) (dp_up (hb b hb')), by rw [z1]; exact hal, by rw [z1]; exact hs, fun b hb' => h60 _ ?_, by rw [List.length_zip]; omega, fun p' hp => c.new hm hp (rel_lst hm hp ?_) p⟩
  · rw [← z1]; exact List.mem_map.mpr ⟨b, hb', rfl⟩
  · have q := zipped (bs := (ds.zip vs).mergeSort (dataLe false fun b : PyData × V => b.1)) fun b hb' => hb b ((List.mergeSort_perm _ _).mem_iff.mp hb')
    rw [sorted_pairs, z1] at q
    exact q
end
end DL

set_option maxHeartbeats 4000000
/-! list(d.values()); dicts whose keys are tuples, as cells -/
namespace DL
open PySem PySem.Spec PyProof.Rows L2 RZ
section
variable {X : Cx} {o e f value : Expr} {es : List Expr} {p0 pos pos' apos cpos ipos : Pos} {to te tf tv : TE} {ti : TA} {Mo Me Mf Mv : DEx} {MA : DAx}
/-! ### list(d.values()) -/
def tListVals (te : TE) : TE := fun σ H Q => te σ H fun x H1 => ∃ d kvs, x = V.ref d ∧ H1 d = some (.dK kvs) ∧ ∀ p, H1 p = none → Q (.ref p) (upd H1 p (.lst (kvs.map (·.2))))
theorem pe_listVals (hc : X.calm = true) (he : PE X e te) (hg : Gl X "list") (hm : X.mg "list" = none) (hv : bootBuiltins "list" = some (.type "list")) (hbase : attributeBase e "values" X.env (eval e X.env) = eval e X.env := by rfl) (hline : (apos.endLine == cpos.line) = true := by rfl)
    (hs : starEach [.Call (.Attribute e "values" apos) [] [] cpos] X.env = (false, eval (.Call (.Attribute e "values" apos) [] [] cpos) X.env) :: starEach [] X.env := by rfl) :
    PE X (.Call (.Name "list" p0) [.Call (.Attribute e "values" apos) [] [] cpos] [] pos) (tListVals te) := by
  refine ⟨fun pins s σ H Q I hq => ?_⟩
  refine wpAny_Call_Name_kw (ld_blt I hg hm hv ?_)
  refine PyProof.Rows.callWith_type1 ?_ hs rfl
  rw [hs]
  show wpAny _ _ (spliced ((false, eval (.Call (.Attribute e "values" apos) [] [] cpos) X.env) :: backTo pos (starEach [] X.env))) _ _ s
  refine Calls.spliced_cons ?_
  refine wpAny_Call_method (T := "dict") (id := "dict.values") hbase rfl hline F.plainAttrs_dict F.slot_dict_values F.type_dict_values (thn (he.run pins s σ H _ I hq) fun u s1 ⟨x, H1, I1, rx, d, kvs, ex, hd, q⟩ => ?_)
  subst ex
  obtain rfl : u = Value.ref d := rx
  obtain ⟨hz, hs0, vs, kv, hdo⟩ := dk_of I1.hok hd
  obtain ⟨ep, hat⟩ := hdo.dictAt
  have lk : kvs.length = vs.length := Paired.length kv
  have I2 : Inv X pins σ H1 { s1 with heap := s1.heap.push { cls := .type "dict_values", data := .fields #[.ref d] } } := I1.kept (t' := s1.toks) fun b ob q => Heap.get?_push_of_some _ q
  refine ⟨hdo.typeIs, hdo.mapOf.noDict, ?_⟩
  show wpAny _ _ (callWith cpos (.builtin "dict.values") [.ref d] [] []) _ X.xe s1
  refine method_meetsIn F.slot_dict_values F.entry_dict_values rfl (PySem.evalArgs_none ⟨rfl, hdo.typeIs, F.args_dict_values_1 _, _, meets_dict_values (mixKind X.prog X.w) d hs0, ⟨vs, hdo⟩, ?_⟩)
  refine Calls.spliced_nil ?_
  refine PySem.W.kdl_call (PySem.W.kdl_values (knd := mixKind X.prog X.w) (kvs := vs) (ep := ep)) (I1.ok.hd hc) ⟨⟨_, Heap.get?_push_size _ rfl, rfl, rfl⟩, hat.push _⟩ (by omega) fun h' tk acc c hk hS hacc => ?_
  refine ⟨.ref _, upd H1 _ (.lst (kvs.map (·.2))), I2.laid (t' := tk) hk (Nat.le_refl _) ⟨by rw [List.length_map]; exact hz, acc.toList, c, ?_, ?_⟩, rfl, q _ (I2.hok.fresh (Nat.le_refl _))⟩
  · have el : acc.toList.length = acc.size := by simp
    refine vals_of_at (by rw [List.length_map, el, hacc.1, lk]) fun j x w h1 h2 => ?_
    obtain ⟨k, hky⟩ := hacc.2 j w (by rw [← Array.getElem?_toList]; exact h2)
    obtain ⟨y, g1, g2⟩ := KV.at' kv hky
    rw [List.getElem?_map, g1] at h1
    cases h1
    exact g2
  · rw [Array.toArray_toList]; exact hS
def mVals (Mo : DEx) : DEx := fun δ μ P => Mo δ μ fun x μ1 => ∃ p, ∃ kvs : List (Key × PyData), x = .mut p ∧ μ1 p = some (.dK (kvs.map fun q => (q.1, AV.dat q.2))) ∧ P (.dat (.list (kvs.map (·.2)))) μ1
theorem pk_valsD {K : PySem.W.Frag} {H : Hp} : ∀ {us : List (Key × V)} {kvs : List (Key × PyData)}, PK K H us (kvs.map fun q => (q.1, AV.dat q.2)) → RelAs K H (us.map (·.2)) ((kvs.map (·.2)).map AV.dat)
  | _, [], .nil => .nil
  | _, q :: kvs, .cons r rs => .cons r.2 (pk_valsD rs)
theorem de_vals (hc : X.calm = true) (ho : DE X o to Mo) (hg : Gl X "list") (hm' : X.mg "list" = none) (hbase : attributeBase o "values" X.env (eval o X.env) = eval o X.env := by rfl) (hline : (apos.endLine == cpos.line) = true := by rfl)
    (hs : starEach [.Call (.Attribute o "values" apos) [] [] cpos] X.env = (false, eval (.Call (.Attribute o "values" apos) [] [] cpos) X.env) :: starEach [] X.env := by rfl) :
    DE X (.Call (.Name "list" p0) [.Call (.Attribute o "values" apos) [] [] cpos] [] pos) (tListVals to) (mVals Mo) := ⟨pe_listVals hc ho.pe hg hm' (by decide +kernel) hbase hline hs, fun σ H Q δ μ P R hm m c =>
  ho.se σ H _ δ μ _ R hm m fun x H1 av μ1 e1 hm1 r1 ⟨p, kvs, ea, hp, m1⟩ => by
    subst ea
    obtain ⟨us, h1, h2⟩ := hm1.dk hp
    exact ⟨p, us, r1, h1, fun l hl => (c.from e1).new hm1 hl (rel_lst hm1 hl (relAs_dat.mpr (pk_valsD h2))) m1⟩⟩

/-! ### tuple keys -/
abbrev TKey := List Key
def valT (kvs : List (TKey × AV)) (k : TKey) : Option AV := (kvs.find? fun q => decide (q.1 = k)).map fun q => q.2
def setT (kvs : List (TKey × AV)) (k : TKey) (a : AV) : List (TKey × AV) := kvs.map fun q => if q.1 = k then (q.1, a) else q
def putT (kvs : List (TKey × AV)) (k : TKey) (a : AV) : List (TKey × AV) := if (valT kvs k).isSome = true then setT kvs k a else kvs ++ [(k, a)]
theorem valT_pos {q : TKey × AV} {r : List (TKey × AV)} {k : TKey} (e : q.1 = k) : valT (q :: r) k = some q.2 := by simp [valT, List.find?_cons, e]
theorem valT_neg {q : TKey × AV} {r : List (TKey × AV)} {k : TKey} (e : ¬ q.1 = k) : valT (q :: r) k = valT r k := by simp [valT, List.find?_cons, e]
theorem valT_nil {k : TKey} : valT [] k = none := rfl
theorem valT_snoc {a : AV} {k j : TKey} : ∀ {kvs : List (TKey × AV)}, valT (kvs ++ [(k, a)]) j = ((valT kvs j).or (if k = j then some a else none))
  | [] => by
    by_cases e : k = j
    · rw [List.nil_append, valT_pos (q := (k, a)) e, if_pos e]; rfl
    · rw [List.nil_append, valT_neg (q := (k, a)) e, if_neg e]; rfl
  | q :: r => by
    by_cases e : q.1 = j
    · rw [List.cons_append, valT_pos e, valT_pos e]; rfl
    · rw [List.cons_append, valT_neg e, valT_neg e]; exact valT_snoc
theorem valT_set {a : AV} {k j : TKey} : ∀ {kvs : List (TKey × AV)}, valT (setT kvs k a) j = if k = j then (valT kvs j).map fun _ => a else valT kvs j
  | [] => by unfold setT; simp [valT_nil]
  | q :: r => by
    have ih := valT_set (a := a) (k := k) (j := j) (kvs := r)
    unfold setT at ih ⊢
    rw [List.map_cons]
    by_cases e : q.1 = k
    · rw [if_pos e]
      by_cases e2 : k = j
      · rw [valT_pos (q := (q.1, a)) (e.trans e2), valT_pos (e.trans e2), if_pos e2]; rfl
      · rw [valT_neg (q := (q.1, a)) (fun z => e2 (e.symm.trans z)), valT_neg (fun z => e2 (e.symm.trans z)), ih]
    · rw [if_neg e]
      by_cases e2 : q.1 = j
      · rw [valT_pos e2, valT_pos e2, if_neg (fun z => e (e2.trans z.symm))]
      · rw [valT_neg e2, valT_neg e2, ih]
theorem valT_put {kvs : List (TKey × AV)} {k j : TKey} {a : AV} : valT (putT kvs k a) j = if k = j then some a else valT kvs j := by
  unfold putT
  by_cases h : (valT kvs k).isSome = true
  · rw [if_pos h, valT_set]
    by_cases e : k = j
    · subst e
      rw [if_pos rfl, if_pos rfl]
      cases z : valT kvs k with
      | none => rw [z] at h; cases h
      | some b => rfl
    · rw [if_neg e, if_neg e]
  · rw [if_neg h, valT_snoc]
    by_cases e : k = j
    · subst e
      rw [if_pos rfl, if_pos rfl]
      cases z : valT kvs k with
      | none => rfl
      | some b => rw [z] at h; exact absurd rfl h
    · rw [if_neg e, if_neg e]
      cases valT kvs j <;> rfl
theorem putT_len {kvs : List (TKey × AV)} {k : TKey} {a : AV} : (putT kvs k a).length ≤ kvs.length + 1 := by
  unfold putT
  split
  · unfold setT; rw [List.length_map]; omega
  · rw [List.length_append]; simp
section
variable {K : PySem.W.Frag} {H : Hp} {μ : Mu}
abbrev PT (K : PySem.W.Frag) (H : Hp) : List (TKey × V) → List (TKey × AV) → Prop := Paired fun (p : TKey × V) (q : TKey × AV) => p.1 = q.1 ∧ RelA K H p.2 q.2
theorem pt_val {k : TKey} : ∀ {vs : List (TKey × V)} {kvs : List (TKey × AV)}, PT K H vs kvs → (valT kvs k = none → valV vs k = none) ∧ ∀ a, valT kvs k = some a → ∃ v, valV vs k = some v ∧ RelA K H v a
  | _, _, .nil => ⟨fun _ => rfl, fun a h => by cases h⟩
  | p :: vs, q :: kvs, .cons h t => by
    have ih := pt_val (k := k) t
    by_cases e : q.1 = k
    · rw [valT_pos e, valV_pos (h.1.trans e)]
      refine ⟨fun z => (nomatch z), fun a z => ?_⟩
      cases z
      exact ⟨_, rfl, h.2⟩
    · rw [valT_neg e, valV_neg (fun z => e (h.1.symm.trans z))]
      exact ih
theorem pt_snoc {x : TKey × V} {y : TKey × AV} (hx : x.1 = y.1 ∧ RelA K H x.2 y.2) : ∀ {vs : List (TKey × V)} {kvs : List (TKey × AV)}, PT K H vs kvs → PT K H (vs ++ [x]) (kvs ++ [y])
  | _, _, .nil => .cons hx .nil
  | _, _, .cons h t => .cons h (pt_snoc hx t)
theorem pt_set {k : TKey} {v : V} {a : AV} (r : RelA K H v a) : ∀ {vs : List (TKey × V)} {kvs : List (TKey × AV)}, PT K H vs kvs → PT K H (vs.map fun p => if p.1 = k then (p.1, v) else p) (setT kvs k a)
  | _, _, .nil => .nil
  | p :: vs, q :: kvs, .cons h t => by
    refine .cons ?_ (pt_set r t)
    by_cases e : q.1 = k
    · show (if p.1 = k then (p.1, v) else p).1 = (if q.1 = k then (q.1, a) else q).1 ∧ RelA K H (if p.1 = k then (p.1, v) else p).2 (if q.1 = k then (q.1, a) else q).2
      rw [if_pos e, if_pos (h.1.trans e)]
      exact ⟨h.1, r⟩
    · show (if p.1 = k then (p.1, v) else p).1 = (if q.1 = k then (q.1, a) else q).1 ∧ RelA K H (if p.1 = k then (p.1, v) else p).2 (if q.1 = k then (q.1, a) else q).2
      rw [if_neg e, if_neg (fun z => e (h.1.symm.trans z))]
      exact h
theorem pt_put {k : TKey} {v : V} {a : AV} (r : RelA K H v a) {vs : List (TKey × V)} {kvs : List (TKey × AV)} (h : PT K H vs kvs) : PT K H (putK vs k v) (putT kvs k a) := by
  have hv := pt_val (k := k) h
  unfold putK putT
  rw [valV_any]
  cases e : valT kvs k with
  | none =>
    rw [hv.1 e]
    exact pt_snoc ⟨rfl, r⟩ h
  | some b =>
    obtain ⟨u, hu, _⟩ := hv.2 b e
    rw [hu]
    exact pt_set r h
theorem pt_some {k : TKey} {vs : List (TKey × V)} {kvs : List (TKey × AV)} (h : PT K H vs kvs) : (valV vs k).isSome = (valT kvs k).isSome := by
  have q := pt_val (k := k) h
  cases e : valT kvs k with
  | none => rw [q.1 e]; rfl
  | some a =>
    obtain ⟨v, h1, _⟩ := q.2 a e
    rw [h1]
    rfl
theorem HM.dt (h : HM K H μ) {a : Addr} {kvs : List (TKey × AV)} (e : μ a = some (.dT kvs)) : ∃ vs, H a = some (.dT vs) ∧ PT K (hid H μ) vs kvs := h a _ e
theorem HM.storeDT (h : HM K H μ) {a : Addr} (ha : hid H μ a = none) {vs : List (TKey × V)} {kvs : List (TKey × AV)} (r : PT K (hid H μ) vs kvs) : HM K (upd H a (.dT vs)) (mset μ a (some (.dT kvs))) := fun b m hb => by
  rw [hid_store ha]
  by_cases e : b = a
  · subst e
    rw [mset_same] at hb
    cases hb
    exact ⟨vs, upd_same, r⟩
  · rw [mset_ne e] at hb
    have q := h b m hb
    cases m <;> (obtain ⟨ys, e1, r1⟩ := q; exact ⟨ys, (upd_ne e).trans e1, r1⟩)
/-- what a tuple key holds -/
def keyAs (ks : TKey) : List AV := ks.map fun k => .dat (kD k)
theorem keys_of : ∀ {ks : TKey} {xs : List V}, RelAs K H xs (keyAs ks) → xs = ks.map kV
  | [], _, .nil => rfl
  | k :: ks, _, .cons h t => by rw [key_of h, keys_of t]; rfl
end
/-- d[(a, b)] -/
def mDGetT (Mo : DEx) (MA : DAx) : DEx := fun δ μ P => Mo δ μ fun x μ1 => MA δ μ1 fun as μ2 => ∃ p kvs ks a, x = .mut p ∧ as = keyAs ks ∧ ks.length ≤ sizeLine ∧ μ2 p = some (.dT kvs) ∧ valT kvs ks = some a ∧ P a μ2
theorem de_dgetT {x1} (hu : X.A.units + 1 < cLine) (ho : DE X o to Mo) (hi : DA X es ti MA) (hs : NoSl (.Tuple es x1 ipos)) : DE X (.Subscript o (.Tuple es x1 ipos) pos) (tDGet to (tTup ti)) (mDGetT Mo MA) := ⟨pe_dget hu ho.pe (pe_tup hi.pa) hs, fun σ H Q δ μ P R hm m c =>
  ho.se σ H _ δ μ _ R hm m fun x H1 av μ1 e1 hm1 r1 m1 => hi.sa σ H1 _ δ μ1 _ (R.mono e1) hm1 m1 fun xs H2 as μ2 e2 hm2 r2 ⟨p, kvs, ks, a, ea, eb, hz, hp, hv, m2⟩ => by
    subst ea eb
    obtain ⟨vs, h1, h2⟩ := hm2.dt hp
    obtain ⟨v, h3, h4⟩ := (pt_val h2).2 a hv
    have ek := keys_of r2
    subst ek
    refine ⟨by rw [List.length_map]; exact hz, fun b hb => ?_⟩
    have nb : p ≠ b := ne_of_none h1 hb
    have sm := hid_new hm2 hb (.tup (ks.map kV))
    refine ⟨p, v, r1, ?_, c v _ a μ2 ((e1.trans e2).trans sm) (hm2.new hb _) (relA_mono sm h4) m2⟩
    rw [← h3]
    exact .t ((upd_ne nb).trans h1) upd_same⟩
/-- (a, b) in d -/
def mDInT (MA : DAx) (Mo : DEx) : DEx := fun δ μ P => MA δ μ fun as μ1 => as.length ≤ sizeLine ∧ Mo δ μ1 fun x μ2 => ∃ p kvs ks, x = .mut p ∧ as = keyAs ks ∧ μ2 p = some (.dT kvs) ∧ P (.dat (.bool (valT kvs ks).isSome)) μ2
theorem de_dinT {x1} (hu : X.A.units + 1 < cLine) (hi : DA X es ti MA) (ho : DE X o to Mo) (hb : behindInMarks .In o = false := by first | exact nobehind _ (by decide) (by decide) | rfl) :
    DE X (.Compare (.Tuple es x1 ipos) [.In] [o] pos) (tDIn (tTup ti) to) (mDInT MA Mo) := ⟨pe_cmp (pc_din hu (pe_tup hi.pa) ho.pe) hb, fun σ H Q δ μ P R hm m c =>
  hi.sa σ H _ δ μ _ R hm m fun xs H1 as μ1 e1 hm1 r1 ⟨hl, m1⟩ => ⟨by rw [paired_len r1]; exact hl, fun b hbn => by
    have sm := hid_new hm1 hbn (.tup xs)
    have at1 : hid (upd H1 b (.tup xs)) μ1 b = some (.tup xs) := by rw [hid_none (hm1.ne hbn), upd_same]
    exact ho.se σ _ _ δ μ1 _ (R.mono (e1.trans sm)) (hm1.new hbn _) m1 fun x H2 av μ2 e2 hm2 r2 ⟨p, kvs, ks, ea, eb, hp, m2⟩ => by
      subst ea eb
      obtain ⟨vs, h1, h2⟩ := hm2.dt hp
      have ek := keys_of r1
      subst ek
      have at2 := (hid_some (e2 _ _ at1)).2
      refine ⟨p, valV vs ks, r2, .t h1 at2, (c.from ((e1.trans sm).trans e2)).here hm2 (rB _) ?_⟩
      rw [pt_some h2]
      exact m2⟩⟩
theorem dt_dinT {x1} (hu : X.A.units + 1 < cLine) (hi : DA X es ti MA) (ho : DE X o to Mo) (hb : behindInMarks .In o = false := by first | exact nobehind _ (by decide) (by decide) | rfl) :
    DT X (.Compare (.Tuple es x1 ipos) [.In] [o] pos) (tB (tDIn (tTup ti) to)) (mTest (mDInT MA Mo)) := ⟨pt_cmp (pc_din hu (pe_tup hi.pa) ho.pe) hb, st_val (de_dinT (pos := pos) (ipos := ipos) (x1 := x1) hu hi ho hb).se⟩
/-- d[(a, b)] = v -/
def mDPutT (Mo : DEx) (MA : DAx) (Mv : DEx) : DSx := fun D δ μ => Mv δ μ fun a μ1 => Mo δ μ1 fun x μ2 => MA δ μ2 fun as μ3 => ∃ p kvs ks, x = .mut p ∧ as = keyAs ks ∧ ks.length ≤ sizeLine ∧ μ3 p = some (.dT kvs) ∧ kvs.length < sizeLine ∧ D.nx δ (mset μ3 p (some (.dT (putT kvs ks a))))
theorem ds_dputT {x1} (hu : X.A.units + 1 < cLine) (ho : DE X o to Mo) (hi : DA X es ti MA) (hv : DE X value tv Mv) (hs : swapsWith value (some (.Subscript o (.Tuple es x1 ipos) pos')) pos.line X.env = pure false := by rfl) :
    DS X (.Assign [.Subscript o (.Tuple es x1 ipos) pos'] value pos) (sDPut to (tTup ti) tv) (mDPutT Mo MA Mv) := ⟨ps_dput hu ho.pe (pe_tup hi.pa) hv.pe hs, fun σ H D δ μ DD R hm m c =>
  hv.se σ H _ δ μ _ R hm m fun v H1 a μ1 e1 hm1 r1 m1 => ho.se σ H1 _ δ μ1 _ (R.mono e1) hm1 m1 fun x H2 av μ2 e2 hm2 r2 m2 => hi.sa σ H2 _ δ μ2 _ ((R.mono e1).mono e2) hm2 m2 fun xs H3 as μ3 e3 hm3 r3 ⟨p, kvs, ks, ea, eb, hz, hp, hl, m3⟩ => by
    subst ea eb
    obtain ⟨vs, h1, h2⟩ := hm3.dt hp
    have ek := keys_of r3
    subst ek
    refine ⟨by rw [List.length_map]; exact hz, fun b hb => ?_⟩
    have nb : p ≠ b := ne_of_none h1 hb
    have sm := hid_new hm3 hb (.tup (ks.map kV))
    have hm4 := hm3.new hb (.tup (ks.map kV))
    have h1' : upd H3 b (.tup (ks.map kV)) p = some (.dT vs) := (upd_ne nb).trans h1
    have h2' : PT X.K (hid (upd H3 b (.tup (ks.map kV))) μ3) vs kvs := paired_mono (fun _ _ z => ⟨z.1, relA_mono sm z.2⟩) h2
    have rv : RelA X.K (hid (upd H3 b (.tup (ks.map kV))) μ3) v a := relA_mono ((e2.trans e3).trans sm) r1
    have hh : hid (upd H3 b (.tup (ks.map kV))) μ3 p = none := hid_cell hp
    refine ⟨p, _, r2, .t h1' upd_same (by rw [paired_len h2]; exact hl), c.nx σ _ δ _ ?_ (hm4.storeDT hh (pt_put rv h2')) ?_ m3⟩
    · rw [hid_store hh]
      exact ((e1.trans e2).trans e3).trans sm
    · rw [hid_store hh]
      exact (((R.mono e1).mono e2).mono e3).mono sm⟩
/-- d.get((a, b), x) -/
def mDGet2T (Mo : DEx) (MA : DAx) (Mf : DEx) : DEx := fun δ μ P => Mo δ μ fun x μ1 => ∃ p kvs1, x = .mut p ∧ μ1 p = some (.dT kvs1) ∧ MA δ μ1 fun as μ2 => as.length ≤ sizeLine ∧ Mf δ μ2 fun z μ3 => ∃ kvs ks, as = keyAs ks ∧ μ3 p = some (.dT kvs) ∧ P ((valT kvs ks).getD z) μ3
theorem de_dget2T {x1} (hu : X.A.units + 1 < cLine) (ho : DE X o to Mo) (hi : DA X es ti MA) (hf : DE X f tf Mf) (m' : M2 X o "get" apos (.Tuple es x1 ipos) f cpos) :
    DE X (.Call (.Attribute o "get" apos) [.Tuple es x1 ipos, f] [] cpos) (tDGet2 to (tTup ti) tf) (mDGet2T Mo MA Mf) := ⟨pe_dget2 hu ho.pe (pe_tup hi.pa) hf.pe m', fun σ H Q δ μ P R hm m c => by
  refine ho.se σ H _ δ μ _ R hm m fun x H1 av μ1 e1 hm1 r1 ⟨p0, kvs0, ea0, hp0, m1⟩ => ?_
  subst ea0
  obtain ⟨vs0, h01, h02⟩ := hm1.dt hp0
  refine ⟨p0, r1, .inr ⟨vs0, .inl h01⟩, ?_⟩
  refine hi.sa σ H1 _ δ μ1 _ (R.mono e1) hm1 m1 fun xs H2 as μ2 e2 hm2 r2 ⟨hl, m2⟩ => ⟨by rw [paired_len r2]; exact hl, fun b hb => ?_⟩
  have sm := hid_new hm2 hb (.tup xs)
  have at1 : hid (upd H2 b (.tup xs)) μ2 b = some (.tup xs) := by rw [hid_none (hm2.ne hb), upd_same]
  refine hf.se σ _ _ δ μ2 _ (((R.mono e1).mono e2).mono sm) (hm2.new hb _) m2 fun z H3 zv μ3 e3 hm3 r3 ⟨kvs, ks, eb, hp, m3⟩ => ?_
  subst eb
  have ek := keys_of r2
  subst ek
  obtain ⟨vs, h1, h2⟩ := hm3.dt hp
  refine ⟨valV vs ks, .t h1 (hid_some (e3 _ _ at1)).2, ?_⟩
  have hv := pt_val (k := ks) h2
  refine (c.from (((e1.trans e2).trans sm).trans e3)).here hm3 ?_ m3
  cases e : valT kvs ks with
  | none => rw [hv.1 e]; exact r3
  | some a =>
    obtain ⟨v, g1, g2⟩ := hv.2 a e
    rw [g1]
    exact g2⟩
/-! ### dict(l) of pairs whose keys are tuples -/
/-- the pairs one behind the other: (key, its tuple, value) -/
def foldV (acc : List (TKey × V)) (us : List (TKey × Addr × V)) : List (TKey × V) := us.foldl (fun acc u => putK acc u.1 u.2.2) acc
theorem foldV_len : ∀ (us : List (TKey × Addr × V)) (acc : List (TKey × V)), (foldV acc us).length ≤ acc.length + us.length
  | [], acc => Nat.le_refl _
  | u :: us, acc => by
    have h := foldV_len us (putK acc u.1 u.2.2)
    have g : (putK acc u.1 u.2.2).length ≤ acc.length + 1 := by
      unfold putK
      split
      · rw [List.length_map]; omega
      · rw [List.length_append]; simp
    show (foldV (putK acc u.1 u.2.2) us).length ≤ _
    rw [List.length_cons]
    omega
theorem foldV_kt {H : Hp} : ∀ {us : List (TKey × Addr × V)} {prs : List (TKey × Addr × Value)} {acc : List (TKey × V)} {xs : List (TKey × Addr × Value)}, Paired (fun (u : TKey × Addr × V) (q : TKey × Addr × Value) => u.1 = q.1 ∧ u.2.1 = q.2.1 ∧ H q.2.1 = some (.tup (q.1.map kV)) ∧ RelV u.2.2 q.2.2) us prs →
    KT H acc xs → KT H (foldV acc us) (PySem.storedAllH xs prs)
  | _, _, _, _, .nil, r => r
  | u :: us, q :: prs, acc, xs, .cons h t, r => by
    show KT H (foldV (putK acc u.1 u.2.2) us) (PySem.storedAllH (storedH xs q.1 q.2.1 q.2.2) prs)
    refine foldV_kt t ?_
    rw [h.1]
    exact KT.put r q.1 h.2.2.1 h.2.2.2
theorem tpairs_of {pins : List (Addr × Obj)} {σ : L2.St} {H : Hp} {s : Shared} (I : Inv X pins σ H s) : ∀ {ps : List Addr} {us : List (TKey × Addr × V)}, Paired (fun p (u : TKey × Addr × V) => SqT X.K H p [.ref u.2.1, u.2.2] ∧ H u.2.1 = some (.tup (u.1.map kV))) ps us →
    ∃ prs : List (TKey × Addr × Value), prs.length = ps.length ∧ Paired (fun (u : TKey × Addr × V) (q : TKey × Addr × Value) => u.1 = q.1 ∧ u.2.1 = q.2.1 ∧ H q.2.1 = some (.tup (q.1.map kV)) ∧ RelV u.2.2 q.2.2) us prs ∧
      ∀ (j : Nat) (q : TKey × Addr × Value), prs[j]? = some q → ∃ p, ps[j]? = some p ∧ IsTup s.heap p #[.ref q.2.1, q.2.2]
  | _, _, .nil => ⟨[], rfl, .nil, fun j q e => by simp at e⟩
  | _, _, .cons (a := p) (b := u) h t => by
    obtain ⟨prs, hl, r, hp⟩ := tpairs_of I t
    obtain ⟨its, rv, ht, _⟩ := I.tuple h.1
    obtain ⟨a, y, ei, ru, ry⟩ := vals2 rv
    subst ei
    obtain rfl : a = Value.ref u.2.1 := ru
    refine ⟨(u.1, u.2.1, y) :: prs, by rw [List.length_cons, List.length_cons, hl], .cons ⟨rfl, rfl, h.2, ry⟩ r, fun j q e => ?_⟩
    cases j with
    | zero =>
      cases Option.some.inj (show some _ = some q from e)
      exact ⟨p, rfl, ht⟩
    | succ j =>
      obtain ⟨b, e1, e2⟩ := hp j q (by simpa using e)
      exact ⟨b, by simpa using e1, e2⟩
theorem call_dictT (hcalm : X.calm = true) (hu : X.A.units + 64 < cLine) : CallR X (.type "dict") (fun xs H Q => ∃ (a : Addr) (ps : List Addr) (us : List (TKey × Addr × V)), xs = [.ref a] ∧ SqL X.K H a (ps.map V.ref) ∧ Paired (fun p (u : TKey × Addr × V) => SqT X.K H p [.ref u.2.1, u.2.2] ∧ H u.2.1 = some (.tup (u.1.map kV))) ps us ∧
    ∀ p, H p = none → Q (.ref p) (upd H p (.dT (foldV [] us)))) := by
  intro pins s σ H xs ws Q I r q
  obtain ⟨a, ps, us, ex, hq, hp, q⟩ := q
  subst ex
  obtain ⟨u, eu, rx⟩ := vals1 r
  subst eu
  cases rx
  obtain ⟨its, rv, pl, hz⟩ := I.list hq
  have ei := refs_at rv
  subst ei
  rw [List.length_map] at hz
  obtain ⟨prs, hl, rel, hpr⟩ := tpairs_of I hp
  obtain ⟨o, n, ho, hc, hd, hdat⟩ := pl
  have hlu : us.length = prs.length := Paired.length rel
  have isAt : ∀ h' : Heap, (∀ b o, b ≠ s.heap.objs.size → s.heap.get? b = some o → h'.get? b = some o) → ∀ x ∈ prs, (tupleKind (mixKind X.prog X.w)).is h' x.1 x.2.1 := fun h' hk x hx => by
    obtain ⟨u, _, _, _, e3, _⟩ := (show ∃ u, u ∈ us ∧ u.1 = x.1 ∧ u.2.1 = x.2.1 ∧ H x.2.1 = some (.tup (x.1.map kV)) ∧ RelV u.2.2 x.2.2 from by
      obtain ⟨j, hj, e⟩ := List.getElem_of_mem hx
      obtain ⟨u, g1, g2⟩ := paired_get (i := j) (y := x) rel (by rw [List.getElem?_eq_getElem hj, e])
      exact ⟨u, List.mem_of_getElem? g1, g2⟩)
    obtain ⟨ob, its', nn, k1, k2, k3, k4⟩ := L2.key_of (w := X.w) (P := X.prog) I.hok e3
    exact ⟨ob, its', nn, hk _ _ (Nat.ne_of_lt (Heap.lt_size k1)) k1, k2, k3, k4⟩
  have P := PySem.PairArg.list (prog := X.prog) (w := X.w) a (ps.map Value.ref).toArray (fun j => ps.getD j 0) (prs.map fun x => (Value.ref x.2.1, x.2.2))
  have lp : (prs.map fun x => (Value.ref x.2.1, x.2.2)).length = prs.length := List.length_map _
  refine PySem.call_dict_pairsH (knd := tupleKind (mixKind X.prog X.w)) (ps := prs) P (I.ok.hd hcalm) (by show X.A.units + 1 + 1 < cLine; omega) ⟨⟨o, n, ho, hc, hd, hdat⟩, by simp [hl], fun j k v e => ?_⟩
    ⟨lp.symm, fun i key v e => ?_⟩ (fun h' hk x hx => isAt h' (fun b o hb e => hk b o hb (by simp) e) x hx) (by rw [lp, hl]; exact hz) fun h' tk hd' k => ?_
  · rw [List.getElem?_map] at e
    obtain ⟨x, hx, e2⟩ := Option.map_eq_some_iff.mp e
    cases e2
    obtain ⟨p, g1, g2⟩ := hpr j x hx
    refine ⟨by simp [g1], ?_⟩
    show PairAt s.heap (ps.getD j 0) _ _
    rw [List.getD_eq_getElem?_getD, g1]
    obtain ⟨ob, h1, h2, nn, h3⟩ := g2
    exact .inl ⟨ob, h1, h2, nn, h3⟩
  · have e' : (prs.map fun x => (Value.ref x.2.1, x.2.2))[i]? = some (key, v) := e
    rw [List.getElem?_map] at e'
    obtain ⟨x, hx, e2⟩ := Option.map_eq_some_iff.mp e'
    cases e2
    exact ⟨x.1, x.2.1, hx, rfl⟩
  · have hm : (s.heap.objs.size == sysModules) = false := beq_eq_false_iff_ne.mpr (Nat.ne_of_gt I.big)
    have hlen : (foldV [] us).length ≤ sizeLine := by
      refine Nat.le_trans (foldV_len us []) ?_
      rw [List.length_nil, Nat.zero_add, hlu, hl]
      exact hz
    have kt : KT H (foldV [] us) (PySem.storedAllH [] prs) := foldV_kt rel .nil
    have k2 : ∀ b o, s.heap.get? b = some o → h'.get? b = some o := fun b o e => k b o (by simp) e
    obtain ⟨od, es, ep, d1, d2, d3, d4, d5, d6⟩ := hd'
    refine ⟨.ref s.heap.objs.size, upd H s.heap.objs.size (.dT (foldV [] us)), I.laid (t' := tk) k2 (Nat.le_refl _) ⟨hlen, hm, PySem.storedAllH [] prs, kt.keeps fun b ys e => ?_, od, es, ep, d1, d2, d3, d4, d6⟩, rfl, q _ (I.hok.fresh (Nat.le_refl _))⟩
    rw [upd_ne fun z => by rw [z, I.hok.fresh (Nat.le_refl _)] at e; cases e]
    exact e
/-- .. of cells -/
def oDictT : DO1 := fun a μ P => ∃ (q : Addr) (ts : List Addr) (us : List (TKey × Addr × AV)), a = .mut q ∧ μ q = some (.lst (ts.map AV.mut)) ∧ Paired (fun t (u : TKey × Addr × AV) => μ t = some (.tup [.mut u.2.1, u.2.2]) ∧ μ u.2.1 = some (.tup (keyAs u.1))) ts us ∧
  ∀ p, μ p = none → P (.mut p) (mset μ p (some (.dT (us.foldl (fun acc u => putT acc u.1 u.2.2) []))))
theorem pt_fold {K : PySem.W.Frag} {H : Hp} : ∀ {vs : List (TKey × Addr × V)} {us : List (TKey × Addr × AV)} {acc : List (TKey × V)} {acc' : List (TKey × AV)}, Paired (fun (v : TKey × Addr × V) (u : TKey × Addr × AV) => v.1 = u.1 ∧ RelA K H v.2.2 u.2.2) vs us → PT K H acc acc' → PT K H (foldV acc vs) (us.foldl (fun acc u => putT acc u.1 u.2.2) acc')
  | _, _, _, _, .nil, r => r
  | v :: vs, u :: us, acc, acc', .cons h t, r => by
    show PT K H (foldV (putK acc v.1 v.2.2) vs) (us.foldl _ (putT acc' u.1 u.2.2))
    refine pt_fold t ?_
    rw [h.1]
    exact pt_put h.2 r
theorem so_dictT {K : PySem.W.Frag} : SO1 K (fun x H Q => ∃ (a : Addr) (ps : List Addr) (us : List (TKey × Addr × V)), [x] = [.ref a] ∧ SqL K H a (ps.map V.ref) ∧ Paired (fun p (u : TKey × Addr × V) => SqT K H p [.ref u.2.1, u.2.2] ∧ H u.2.1 = some (.tup (u.1.map kV))) ps us ∧ ∀ p, H p = none → Q (.ref p) (upd H p (.dT (foldV [] us)))) oDictT := fun x H Q a μ P hm rx ⟨q, ts, kvs, e1, hq, hp, g⟩ c => by
  subst e1
  cases (show x = V.ref q from rx)
  obtain ⟨xs, g1, g2⟩ := hm.lst hq
  have refs : ∀ {ts : List Addr} {xs : List V}, RelAs K (hid H μ) xs (ts.map AV.mut) → xs = ts.map V.ref := by
    intro ts
    induction ts with
    | nil => intro xs r; cases r; rfl
    | cons t ts ih => intro xs r; cases r with | cons a b => rw [ih b, show _ = V.ref t from a]; rfl
  have es := refs g2
  subst es
  have get : ∀ {ts : List Addr} {us : List (TKey × Addr × AV)}, Paired (fun t (u : TKey × Addr × AV) => μ t = some (.tup [.mut u.2.1, u.2.2]) ∧ μ u.2.1 = some (.tup (keyAs u.1))) ts us →
      ∃ vs, Paired (fun p (u : TKey × Addr × V) => SqT K H p [.ref u.2.1, u.2.2] ∧ H u.2.1 = some (.tup (u.1.map kV))) ts vs ∧ Paired (fun (v : TKey × Addr × V) (u : TKey × Addr × AV) => v.1 = u.1 ∧ RelA K (hid H μ) v.2.2 u.2.2) vs us := by
    intro ts us r
    induction r with
    | nil => exact ⟨[], .nil, .nil⟩
    | @cons t u ts us a _ ih =>
      obtain ⟨vs, i1, i2⟩ := ih
      obtain ⟨ys, y1, y2⟩ := hm.tup a.1
      obtain ⟨zs, z1, z2⟩ := hm.tup a.2
      cases y2 with
      | cons b1 b2 =>
        cases b2 with
        | cons b3 b4 =>
          cases b4
          cases (show _ = V.ref u.2.1 from b1)
          refine ⟨(u.1, u.2.1, _) :: vs, .cons ⟨.inl (.inl y1), ?_⟩ i1, .cons ⟨rfl, b3⟩ i2⟩
          rw [z1, keys_of z2]
  obtain ⟨vs, i1, i2⟩ := get hp
  refine ⟨q, ts, vs, rfl, .inl (.inl g1), i1, fun p n => ?_⟩
  have hn : hid H μ p = none := by rw [hid_none (hm.ne n)]; exact n
  refine c _ _ (.mut p) _ ?_ (hm.storeDT hn (pt_fold i2 .nil)) rfl (g p (hm.ne n))
  rw [hid_store hn]
  exact Same.refl _
end
/-! ### min of numbers -/
section
open PySem.W

def oMinI : DO1 := fun a μ P => ∃ ns : List Int, AsData μ a (.list (ns.map PyData.int)) ∧ 0 < ns.length ∧ ∀ m ∈ ns, (∀ j ∈ ns, m ≤ j) → P (.dat (.int m)) μ
theorem so_minI {K : PySem.W.Frag} : SO1 K (fun x H Q => rMinA K [x] H Q) oMinI := fun x H Q a μ P hm rx ⟨ns, ha, hne, q⟩ c => by
  cases ns with
  | nil => exact absurd hne (by simp)
  | cons n0 ns =>
    obtain ⟨m, hmem, e⟩ := List.mem_map.mp (show minD (.int n0) (ns.map PyData.int) ∈ (n0 :: ns).map PyData.int from minD_mem _ _)
    refine so_minA x H Q a μ P hm rx ⟨.int n0, ns.map PyData.int, ha, ⟨fun x hx y hy => ?_, fun x hx => ?_⟩, ?_, ?_⟩ c
    · obtain ⟨r, _, rfl⟩ := List.mem_map.mp (show x ∈ (n0 :: ns).map PyData.int from hx)
      obtain ⟨r', _, rfl⟩ := List.mem_map.mp (show y ∈ (n0 :: ns).map PyData.int from hy)
      simp [alike]
    · obtain ⟨r, _, rfl⟩ := List.mem_map.mp (show x ∈ (n0 :: ns).map PyData.int from hx)
      simp
    · have : ∀ l : List Int, PyData.depthAll (l.map PyData.int) = 0 := fun l => by
        induction l with
        | nil => simp [PyData.depthAll]
        | cons r rows ih => simp only [List.map_cons, PyData.depthAll, PyData.depth, ih]; rfl
      exact Nat.le_trans (Nat.le_of_eq (this (n0 :: ns))) (by decide)
    rw [← e]
    refine q m hmem fun j hj => Int.not_lt.mp fun lt => ?_
    have q := minD_least (ns.map PyData.int) (.int n0) (.int j) (List.mem_map_of_mem (f := PyData.int) hj)
    rw [← e] at q
    have q' : (!dataLt (.int j) (.int m)) = true := q
    rw [dataLt_int, decide_eq_true lt] at q'
    cases q'
end
end DL

set_option maxHeartbeats 4000000
/-! least beats between callers, and waves that meet -/
namespace DL
open PySem PyProof.Rows
open Classical
abbrev Tab := Str → Str → Option Int
/-- f is nowhere greater than g -/
def Lo (f g : Tab) : Prop := ∀ a b d, g a b = some d → ∃ e, f a b = some e ∧ e ≤ d
theorem Lo.refl (f : Tab) : Lo f f := fun _ _ d h => ⟨d, h, Int.le_refl _⟩
theorem Lo.trans {f g h : Tab} (p : Lo f g) (q : Lo g h) : Lo f h := fun a b d e => by
  obtain ⟨d1, e1, l1⟩ := q a b d e
  obtain ⟨d2, e2, l2⟩ := p a b d1 e1
  exact ⟨d2, e2, by omega⟩
/-- found[n, y] from found[n, x] -/
def relax (n x y : Str) (β : Int) (f : Tab) : Tab := match f n x with
  | none => f
  | some d => fun m z => if m = n ∧ z = y then some (min (d + β) ((f n y).getD (d + β))) else f m z
theorem relax_lo {n x y : Str} {β : Int} {f : Tab} : Lo (relax n x y β f) f := fun a b d h => by
  unfold relax
  cases e : f n x with
  | none => exact ⟨d, h, Int.le_refl _⟩
  | some c =>
    show ∃ e, (if a = n ∧ b = y then some _ else f a b) = some e ∧ e ≤ d
    by_cases z : a = n ∧ b = y
    · rw [if_pos z]
      obtain ⟨rfl, rfl⟩ := z
      exact ⟨_, rfl, by rw [h]; exact Int.min_le_right _ _⟩
    · rw [if_neg z]
      exact ⟨d, h, Int.le_refl _⟩
theorem relax_hit {n x y : Str} {β d : Int} {f : Tab} (h : f n x = some d) : ∃ e, relax n x y β f n y = some e ∧ e ≤ d + β := by
  unfold relax
  rw [h]
  show ∃ e, (if n = n ∧ y = y then some _ else _) = some e ∧ e ≤ d + β
  rw [if_pos ⟨rfl, rfl⟩]
  exact ⟨_, rfl, Int.min_le_left _ _⟩
def relaxW (q : Way) (f : Tab) (n : Str) : Tab := relax n q.2.2.1 q.2.1 q.2.2.2 (relax n q.2.1 q.2.2.1 q.2.2.2 f)
def relaxN (ns : List Str) (f : Tab) (q : Way) : Tab := ns.foldl (relaxW q) f
def round (ns : List Str) (ws : List Way) (f : Tab) : Tab := ws.foldl (relaxN ns) f
def tab0 (ns : List Str) : Tab := fun a b => if a = b ∧ a ∈ ns then some 0 else none
def rounds (ns : List Str) (ws : List Way) : Nat → Tab
  | 0 => tab0 ns
  | k + 1 => round ns ws (rounds ns ws k)
theorem foldl_lo {α : Type} {g : Tab → α → Tab} (h : ∀ f a, Lo (g f a) f) : ∀ (l : List α) (f : Tab), Lo (l.foldl g f) f
  | [], f => Lo.refl f
  | a :: l, f => (foldl_lo h l (g f a)).trans (h f a)
theorem foldl_hit {α : Type} {g : Tab → α → Tab} (h : ∀ f a, Lo (g f a) f) {P : Tab → Prop} (down : ∀ f f', Lo f' f → P f → P f') {a : α} : ∀ {l : List α} {f : Tab}, a ∈ l → (∀ f', Lo f' f → P (g f' a)) → P (l.foldl g f)
  | b :: l, f, hm, hp => by
    rcases List.mem_cons.mp hm with e | hm
    · subst e
      exact down _ _ (foldl_lo h l _) (hp f (Lo.refl f))
    · exact foldl_hit h down (f := g f b) hm fun f' hf => hp f' (hf.trans (h f b))
theorem relaxW_lo {q : Way} (f : Tab) (n : Str) : Lo (relaxW q f n) f := relax_lo.trans relax_lo
theorem relaxN_lo {ns : List Str} (f : Tab) (q : Way) : Lo (relaxN ns f q) f := foldl_lo relaxW_lo ns f
theorem round_lo {ns : List Str} {ws : List Way} (f : Tab) : Lo (round ns ws f) f := foldl_lo relaxN_lo ws f
theorem rounds_lo {ns : List Str} {ws : List Way} {j : Nat} : ∀ m : Nat, Lo (rounds ns ws (j + m)) (rounds ns ws j)
  | 0 => Lo.refl _
  | m + 1 => (round_lo _).trans (rounds_lo m)
theorem round_hit {ns : List Str} {ws : List Way} {f : Tab} {n x y w : Str} {β d : Int} (hn : n ∈ ns) (s : sends ws x y w β) (h : f n x = some d) : ∃ e, round ns ws f n y = some e ∧ e ≤ d + β := by
  have down : ∀ f f' : Tab, Lo f' f → (∃ e, f n y = some e ∧ e ≤ d + β) → ∃ e, f' n y = some e ∧ e ≤ d + β := fun f f' hl ⟨e, he, le⟩ => by
    obtain ⟨e', h1, h2⟩ := hl n y e he
    exact ⟨e', h1, by omega⟩
  obtain ⟨q, hq, _, rfl, hends⟩ := s
  refine foldl_hit relaxN_lo down hq fun f1 l1 => ?_
  refine foldl_hit relaxW_lo down hn fun f2 l2 => ?_
  obtain ⟨d2, h2, le2⟩ := (l2.trans l1) n x d h
  rcases hends with ⟨rfl, rfl⟩ | ⟨rfl, rfl⟩
  · obtain ⟨e, he, le⟩ := relax_hit (y := q.2.2.1) (β := q.2.2.2) h2
    obtain ⟨e', he', le'⟩ := (relax_lo (n := n) (x := q.2.2.1) (y := q.2.1) (β := q.2.2.2)) n q.2.2.1 e he
    exact ⟨e', he', by omega⟩
  · obtain ⟨d3, h3, le3⟩ := (relax_lo (n := n) (x := q.2.1) (y := q.2.2.1) (β := q.2.2.2) (f := f2)) n q.2.2.1 d2 h2
    obtain ⟨e, he, le⟩ := relax_hit (y := q.2.1) (β := q.2.2.2) h3
    exact ⟨e, he, by omega⟩
/-- ways one behind the other -/
inductive Wk (qs : List Way) (a : Str) : Str → Int → Prop
  | nil : Wk qs a a 0
  | snoc {b c w : Str} {d β : Int} (h : Wk qs a b d) (s : sends qs b c w β) : Wk qs a c (d + β)
/-- .. and no caller twice -/
inductive Pth (qs : List Way) (a : Str) : List Str → Str → Int → Prop
  | nil : Pth qs a [a] a 0
  | snoc {vs : List Str} {b c w : Str} {d β : Int} (h : Pth qs a vs b d) (s : sends qs b c w β) (new : c ∉ vs) : Pth qs a (c :: vs) c (d + β)
section
variable {qs : List Way} {r : Int} {ns : List Str} {a b c w : Str} {d β : Int}
theorem Pth.cut (hw : WOk r qs) {vs : List Str} (h : Pth qs a vs b d) : c ∈ vs → ∃ us e, Pth qs a us c e ∧ e ≤ d := by
  induction h with
  | nil => intro hc; obtain rfl := List.mem_singleton.mp hc; exact ⟨_, _, .nil, Int.le_refl _⟩
  | @snoc vs b x w d β h s new ih =>
    intro hc
    rcases List.mem_cons.mp hc with e | hc
    · subst e
      exact ⟨_, _, .snoc h s new, Int.le_refl _⟩
    · obtain ⟨us, e, h1, h2⟩ := ih hc
      have := (hw.sends s).2.1
      exact ⟨us, e, h1, by omega⟩
theorem Wk.pth (hw : WOk r qs) (h : Wk qs a b d) : ∃ vs e, Pth qs a vs b e ∧ e ≤ d := by
  induction h with
  | nil => exact ⟨_, _, .nil, Int.le_refl _⟩
  | @snoc b c w d β h s ih =>
    obtain ⟨vs, e, h1, h2⟩ := ih
    by_cases hc : c ∈ vs
    · obtain ⟨us, e', g1, g2⟩ := h1.cut hw hc
      have := (hw.sends s).2.1
      exact ⟨us, e', g1, by omega⟩
    · exact ⟨_, _, .snoc h1 s hc, by omega⟩
theorem Wk.pos (hw : WOk r qs) (h : Wk qs a b d) : 0 ≤ d ∧ (a ≠ b → 0 < d) := by
  induction h with
  | nil => exact ⟨Int.le_refl _, fun h => absurd rfl h⟩
  | @snoc b c w d β h s ih =>
    have := (hw.sends s).2.1
    exact ⟨by omega, fun _ => by omega⟩
theorem Pth.good (hin : ∀ x y w β, sends qs x y w β → x ∈ ns ∧ y ∈ ns) (h6 : ∀ x y w β, sends qs x y w β → β ≤ 6) (ha : a ∈ ns) {vs : List Str} (h : Pth qs a vs b d) : vs.Nodup ∧ (∀ x ∈ vs, x ∈ ns) ∧ 1 ≤ vs.length ∧ d ≤ 6 * ((vs.length : Int) - 1) := by
  induction h with
  | nil => exact ⟨List.pairwise_singleton _ _, fun x hx => by rw [List.mem_singleton.mp hx]; exact ha, by simp, by simp⟩
  | @snoc vs b c w d β h s new ih =>
    obtain ⟨h1, h2, h3, h4⟩ := ih
    refine ⟨List.nodup_cons.mpr ⟨new, h1⟩, fun x hx => ?_, by simp, ?_⟩
    · rcases List.mem_cons.mp hx with e | hx
      · rw [e]; exact (hin _ _ _ _ s).2
      · exact h2 x hx
    · have := h6 _ _ _ _ s
      rw [List.length_cons]
      omega
theorem nodup_sub {α : Type} [DecidableEq α] : ∀ {vs ns : List α}, vs.Nodup → (∀ x ∈ vs, x ∈ ns) → vs.length ≤ ns.length
  | [], _, _, _ => Nat.zero_le _
  | v :: vs, ns, hn, hs => by
    obtain ⟨h1, h2⟩ := List.nodup_cons.mp hn
    have hv : v ∈ ns := hs v List.mem_cons_self
    have ih := nodup_sub (ns := ns.erase v) h2 fun x hx => (List.mem_erase_of_ne fun e => h1 (by rw [← e]; exact hx)).mpr (hs x (List.mem_cons_of_mem _ hx))
    rw [List.length_erase_of_mem hv] at ih
    have := List.length_pos_of_mem hv
    rw [List.length_cons]
    omega
theorem relax_sound {f : Tab} {n x y : Str} (s : sends qs x y w β) (h : ∀ a b d, f a b = some d → a ∈ ns ∧ Wk qs a b d) : ∀ a b d, relax n x y β f a b = some d → a ∈ ns ∧ Wk qs a b d := fun a b d e => by
  unfold relax at e
  cases z : f n x with
  | none => rw [z] at e; exact h a b d e
  | some c =>
    rw [z] at e
    replace e : (if a = n ∧ b = y then some (min (c + β) ((f n y).getD (c + β))) else f a b) = some d := e
    by_cases g : a = n ∧ b = y
    · rw [if_pos g] at e
      obtain ⟨rfl, rfl⟩ := g
      obtain ⟨h1, h2⟩ := h a x c z
      have e' := Option.some.inj e
      cases z2 : f a b with
      | none =>
        rw [z2] at e'
        have : d = c + β := by rw [← e']; exact Int.min_self _
        rw [this]
        exact ⟨h1, h2.snoc s⟩
      | some k =>
        rw [z2] at e'
        replace e' : min (c + β) k = d := e'
        rcases (by omega : d = c + β ∨ d = k) with q | q
        · rw [q]; exact ⟨h1, h2.snoc s⟩
        · rw [q]; exact h a b k z2
    · rw [if_neg g] at e
      exact h a b d e
theorem foldl_keep {α : Type} {g : Tab → α → Tab} {P : Tab → Prop} : ∀ {l : List α} {f : Tab}, (∀ a ∈ l, ∀ f, P f → P (g f a)) → P f → P (l.foldl g f)
  | [], _, _, h => h
  | a :: l, f, hg, h => foldl_keep (l := l) (f := g f a) (fun b hb => hg b (List.mem_cons_of_mem _ hb)) (hg a List.mem_cons_self f h)
theorem round_sound {f : Tab} (h : ∀ a b d, f a b = some d → a ∈ ns ∧ Wk qs a b d) : ∀ a b d, round ns qs f a b = some d → a ∈ ns ∧ Wk qs a b d :=
  foldl_keep (P := fun f => ∀ a b d, f a b = some d → a ∈ ns ∧ Wk qs a b d) (fun q hq f hf => foldl_keep (P := fun f => ∀ a b d, f a b = some d → a ∈ ns ∧ Wk qs a b d) (fun n _ f hf =>
    relax_sound (w := q.1) ⟨q, hq, rfl, rfl, .inr ⟨rfl, rfl⟩⟩ (relax_sound (w := q.1) ⟨q, hq, rfl, rfl, .inl ⟨rfl, rfl⟩⟩ hf)) hf) h
theorem rounds_sound : ∀ (k : Nat) (a b : Str) (d : Int), rounds ns qs k a b = some d → a ∈ ns ∧ Wk qs a b d
  | 0, a, b, d, h => by
    replace h : (if a = b ∧ a ∈ ns then some (0 : Int) else none) = some d := h
    by_cases e : a = b ∧ a ∈ ns
    · rw [if_pos e] at h
      cases h
      obtain ⟨rfl, g⟩ := e
      exact ⟨g, .nil⟩
    · rw [if_neg e] at h; cases h
  | k + 1, a, b, d, h => round_sound (rounds_sound k) a b d h
theorem rounds_all (ha : a ∈ ns) {vs : List Str} (h : Pth qs a vs b d) : ∀ k : Nat, vs.length ≤ k + 1 → ∃ e, rounds ns qs k a b = some e ∧ e ≤ d := by
  induction h with
  | nil =>
    intro k _
    have := rounds_lo (ns := ns) (ws := qs) (j := 0) k a a 0 (by show (if a = a ∧ a ∈ ns then some (0 : Int) else none) = _; rw [if_pos ⟨rfl, ha⟩])
    rwa [Nat.zero_add] at this
  | @snoc vs b c w d β h s new ih =>
    intro k hk
    rw [List.length_cons] at hk
    have h1 : 1 ≤ vs.length := by cases h <;> simp
    obtain ⟨j, rfl⟩ : ∃ j, k = j + 1 := ⟨k - 1, by omega⟩
    obtain ⟨e, he, le⟩ := ih j (by omega)
    obtain ⟨e', he', le'⟩ := round_hit ha s he
    exact ⟨e', he', by omega⟩
/-- the least beats from caller to caller -/
structure LeastOk (ns : List Str) (qs : List Way) (f : Tab) : Prop where
  self : ∀ a ∈ ns, f a a = some 0
  dom : ∀ a b d, f a b = some d → a ∈ ns ∧ 0 ≤ d ∧ d ≤ 42 ∧ (a ≠ b → 0 < d)
  fwd : ∀ a b c w d β, f a b = some d → sends qs b c w β → ∃ e, f a c = some e ∧ e ≤ d + β
  back : ∀ a b d, f a b = some d → a ≠ b → ∃ c w β e, sends qs c b w β ∧ f a c = some e ∧ d = e + β
theorem least_ok (hw : WOk r qs) (n8 : ns.length ≤ 8) (hin : ∀ x y w β, sends qs x y w β → x ∈ ns ∧ y ∈ ns) (h6 : ∀ x y w β, sends qs x y w β → β ≤ 6) : LeastOk ns qs (rounds ns qs ns.length) := by
  have comp : ∀ {a b : Str} {d : Int}, a ∈ ns → Wk qs a b d → ∃ e, rounds ns qs ns.length a b = some e ∧ e ≤ d ∧ e ≤ 42 := fun {a b d} ha h => by
    obtain ⟨vs, e, h1, h2⟩ := h.pth hw
    obtain ⟨g1, g2, g3, g4⟩ := h1.good hin h6 ha
    have hl := nodup_sub g1 g2
    obtain ⟨e', k1, k2⟩ := rounds_all ha h1 ns.length (by omega)
    exact ⟨e', k1, by omega, by omega⟩
  have fwd : ∀ a b c w d β, rounds ns qs ns.length a b = some d → sends qs b c w β → ∃ e, rounds ns qs ns.length a c = some e ∧ e ≤ d + β := fun a b c w d β h s => by
    obtain ⟨h1, h2⟩ := rounds_sound _ _ _ _ h
    obtain ⟨e, k1, k2, _⟩ := comp h1 (h2.snoc s)
    exact ⟨e, k1, k2⟩
  refine ⟨fun a ha => ?_, fun a b d h => ?_, fwd, fun a b d h ne => ?_⟩
  · obtain ⟨e, k1, k2, _⟩ := comp ha (.nil (qs := qs))
    have := ((rounds_sound _ _ _ _ k1).2.pos hw).1
    rw [k1]
    congr 1
    omega
  · obtain ⟨h1, h2⟩ := rounds_sound _ _ _ _ h
    obtain ⟨e, k1, k2, k3⟩ := comp h1 h2
    rw [h] at k1
    cases k1
    exact ⟨h1, (h2.pos hw).1, k3, (h2.pos hw).2⟩
  · obtain ⟨h1, h2⟩ := rounds_sound _ _ _ _ h
    cases h2 with
    | nil => exact absurd rfl ne
    | @snoc c _ w d0 β h3 s =>
      obtain ⟨e, k1, k2, _⟩ := comp h1 h3
      obtain ⟨e', k3, k4⟩ := fwd _ _ _ _ _ _ k1 s
      rw [h] at k3
      cases k3
      exact ⟨c, w, β, e, s, k1, by omega⟩
/-! waves from several calls -/
/-- the first beat at which a wave from the calls S comes to x -/
def Fst (f : Tab) (S : List (Str × Int)) (x : Str) (t : Int) : Prop := (∃ s ∈ S, ∃ d, f s.1 x = some d ∧ t = s.2 + d) ∧ ∀ s ∈ S, ∀ d, f s.1 x = some d → t ≤ s.2 + d
theorem Fst.eq {f : Tab} {S : List (Str × Int)} {x : Str} {t u : Int} (h : Fst f S x t) (g : Fst f S x u) : t = u := by
  obtain ⟨⟨s, h1, d, h2, h3⟩, h4⟩ := h
  obtain ⟨⟨s', g1, d', g2, g3⟩, g4⟩ := g
  have := h4 s' g1 d' g2
  have := g4 s h1 d h2
  omega
structure Wave (ns : List Str) (qs : List Way) (r : Int) (f : Tab) (b0 : Int) (old : Str → Option Int) (S : List (Str × Int)) (b : Int) (last : Str → Option Int) : Prop where
  le : b0 ≤ b
  at_ : ∀ s ∈ S, s.1 ∈ ns ∧ b0 ≤ s.2 ∧ s.2 ≤ b
  hit : ∀ x t, Fst f S x t → t ≤ b → last x = some t
  miss : ∀ x, (∀ t, Fst f S x t → b < t) → last x = old x
theorem Fst.of {f : Tab} {x : Str} {t0 : Int} : ∀ {S : List (Str × Int)}, (∃ s ∈ S, ∃ d, f s.1 x = some d ∧ s.2 + d ≤ t0) → ∃ t, Fst f S x t ∧ t ≤ t0
  | [], ⟨s, h, _⟩ => by cases h
  | s0 :: S, ⟨s, hs, d, hd, le⟩ => by
    have cons : ∀ u, Fst f S x u → (∀ d, f s0.1 x = some d → u ≤ s0.2 + d) → Fst f (s0 :: S) x u := fun u h g => ⟨let ⟨s, h1, h2⟩ := h.1; ⟨s, List.mem_cons_of_mem _ h1, h2⟩, fun s hs d hd => by
      rcases List.mem_cons.mp hs with e | hs
      · subst e; exact g d hd
      · exact h.2 s hs d hd⟩
    by_cases any : ∃ s ∈ S, ∃ d, f s.1 x = some d
    · obtain ⟨s1, k1, d1, k2⟩ := any
      obtain ⟨u, hu, lu⟩ := Fst.of (t0 := s1.2 + d1) ⟨s1, k1, d1, k2, Int.le_refl _⟩
      cases e0 : f s0.1 x with
      | none =>
        have hu' := cons u hu fun d h => by rw [e0] at h; cases h
        refine ⟨u, hu', ?_⟩
        rcases List.mem_cons.mp hs with e | hs
        · subst e; rw [e0] at hd; cases hd
        · have := hu.2 s hs d hd
          omega
      | some d0 =>
        by_cases c : u ≤ s0.2 + d0
        · have hu' := cons u hu fun d h => by rw [e0] at h; cases h; exact c
          exact ⟨u, hu', by have := hu'.2 s hs d hd; omega⟩
        · have hu' : Fst f (s0 :: S) x (s0.2 + d0) := ⟨⟨s0, List.mem_cons_self, d0, e0, rfl⟩, fun s hs d hd => by
            rcases List.mem_cons.mp hs with e | hs
            · subst e; rw [e0] at hd; cases hd; exact Int.le_refl _
            · have := hu.2 s hs d hd
              omega⟩
          exact ⟨_, hu', by have := hu'.2 s hs d hd; omega⟩
    · rcases List.mem_cons.mp hs with e | hs'
      · subst e
        exact ⟨s.2 + d, ⟨⟨s, List.mem_cons_self, d, hd, rfl⟩, fun s' hs' d' hd' => by
          rcases List.mem_cons.mp hs' with e | h
          · subst e; rw [hd] at hd'; cases hd'; exact Int.le_refl _
          · exact absurd ⟨s', h, d', hd'⟩ any⟩, le⟩
      · exact absurd ⟨s, hs', d, hd⟩ any
variable {f : Tab} {b0 : Int} {old last : Str → Option Int} {S : List (Str × Int)} {t : Int} {x : Str}
theorem Fst.fwd (L : LeastOk ns qs f) {y : Str} (h : Fst f S y t) (s : sends qs y x w β) : ∃ u, Fst f S x u ∧ u ≤ t + β := by
  obtain ⟨⟨s0, h1, d, h2, h3⟩, h4⟩ := h
  obtain ⟨e, k1, k2⟩ := L.fwd _ _ _ _ _ _ h2 s
  exact Fst.of ⟨s0, h1, e, k1, by omega⟩
theorem Wave.calls (W : Wave ns qs r f b0 old S b1 last) (L : LeastOk ns qs f) (hw : WOk r qs) (r24 : r ≤ 24) (ho : ∀ x l, old x = some l → l + 30 ≤ b0) : callsAt qs r last (b1 + 1) x ↔ Fst f S x (b1 + 1) := by
  have tell : ∀ y l, last y = some l → (Fst f S y l ∧ l ≤ b1) ∨ (l + 30 ≤ b0 ∧ ∀ t, Fst f S y t → b1 < t) := fun y l h => by
    by_cases c : ∃ t, Fst f S y t ∧ t ≤ b1
    · obtain ⟨t, h1, h2⟩ := c
      rw [W.hit y t h1 h2] at h
      cases h
      exact .inl ⟨h1, h2⟩
    · have hm : ∀ t, Fst f S y t → b1 < t := fun t h1 => by
        by_cases q : t ≤ b1
        · exact absurd ⟨t, h1, q⟩ c
        · omega
      rw [W.miss y hm] at h
      exact .inr ⟨ho y l h, hm⟩
  have le := W.le
  constructor
  · rintro ⟨⟨y, w, β, s, hy⟩, hmay⟩
    obtain ⟨_, g1, g2⟩ := hw.sends s
    rcases tell y _ hy with ⟨h1, h2⟩ | ⟨h1, _⟩
    · obtain ⟨u, hu, lu⟩ := h1.fwd L s
      by_cases c : u ≤ b1
      · have := hmay u (W.hit x u hu c)
        obtain ⟨v, hv, lv⟩ := hu.fwd L (sends_comm s)
        have := hv.eq h1
        omega
      · obtain rfl : u = b1 + 1 := by omega
        exact hu
    · omega
  · intro h
    have hm : ∀ t, Fst f S x t → b1 < t := fun t ht => by have := ht.eq h; omega
    obtain ⟨⟨s0, h1, d, h2, h3⟩, h4⟩ := h
    have ne : s0.1 ≠ x := fun e => by
      have := (W.at_ s0 h1)
      have z := L.self s0.1 this.1
      rw [e] at z h2
      rw [z] at h2
      cases h2
      omega
    obtain ⟨y, w, β, e, s, k1, k2⟩ := L.back _ _ _ h2 ne
    obtain ⟨_, g1, g2⟩ := hw.sends s
    obtain ⟨u, hu, lu⟩ := Fst.of (f := f) (x := y) (t0 := s0.2 + e) ⟨s0, h1, e, k1, Int.le_refl _⟩
    have low : b1 + 1 ≤ u + β := by
      obtain ⟨v, hv, lv⟩ := hu.fwd L s
      have := hv.eq ⟨⟨s0, h1, d, h2, h3⟩, h4⟩
      omega
    have hl := W.hit y u hu (by omega)
    refine ⟨⟨y, w, β, s, by rw [hl]; congr 1; omega⟩, fun l hx => ?_⟩
    rcases tell x l hx with ⟨g, g'⟩ | ⟨g, _⟩
    · have := hm l g
      omega
    · omega
theorem Wave.step (W : Wave ns qs r f b0 old S b1 last) (L : LeastOk ns qs f) (hw : WOk r qs) (r24 : r ≤ 24) (ho : ∀ x l, old x = some l → l + 30 ≤ b0) : Wave ns qs r f b0 old S (b1 + 1) (stepAt qs r (b1 + 1) last) := by
  have le := W.le
  refine ⟨by omega, fun s hs => ?_, fun x t h ht => ?_, fun x h => ?_⟩
  · have := W.at_ s hs
    exact ⟨this.1, this.2.1, by omega⟩
  · unfold stepAt
    by_cases c : callsAt qs r last (b1 + 1) x
    · rw [if_pos c]
      rw [((W.calls L hw r24 ho).mp c).eq h]
    · rw [if_neg c]
      refine W.hit x t h ?_
      by_cases e : t = b1 + 1
      · subst e
        exact absurd ((W.calls L hw r24 ho).mpr h) c
      · omega
  · unfold stepAt
    rw [if_neg fun c => by have := h _ ((W.calls L hw r24 ho).mp c); omega]
    exact W.miss x fun t ht => by have := h t ht; omega
theorem Wave.adv (W : Wave ns qs r f b0 old S b1 last) (L : LeastOk ns qs f) (hw : WOk r qs) (r24 : r ≤ 24) (ho : ∀ x l, old x = some l → l + 30 ≤ b0) : ∀ n : Nat, Wave ns qs r f b0 old S (b1 + n) (adv qs r b1 n last)
  | 0 => by
    have e : b1 + ((0 : Nat) : Int) = b1 := by omega
    rw [e]
    exact W
  | n + 1 => by
    rw [adv_succ]
    have e : b1 + ((n + 1 : Nat) : Int) = b1 + n + 1 := by omega
    rw [e]
    exact (Wave.adv W L hw r24 ho n).step L hw r24 ho
theorem Wave.runs (W : Wave ns qs r f b0 old S b1 last) (L : LeastOk ns qs f) (hw : WOk r qs) (r24 : r ≤ 24) (ho : ∀ x l, old x = some l → l + 30 ≤ b0) {n : Nat} : (t, x) ∈ runC qs r ns b1 n last ↔ x ∈ ns ∧ Fst f S x t ∧ b1 < t ∧ t ≤ b1 + n := by
  rw [DL.runC_mem]
  constructor
  · rintro ⟨k, h1, h2, h3, h4⟩
    have := ((W.adv L hw r24 ho k).calls L hw r24 ho).mp h4
    rw [← h2] at this
    exact ⟨h3, this, by omega, by omega⟩
  · rintro ⟨h1, h2, h3, h4⟩
    obtain ⟨k, hk⟩ : ∃ k : Nat, t = b1 + k + 1 := ⟨(t - b1 - 1).toNat, by omega⟩
    refine ⟨k, by omega, hk, h1, ((W.adv L hw r24 ho k).calls L hw r24 ho).mpr ?_⟩
    rw [← hk]
    exact h2
/-- another call by hand, of one whom no wave has come to -/
theorem Wave.hand (W : Wave ns qs r f b0 old S b1 last) (L : LeastOk ns qs f) {m : Str} (hm : m ∈ ns) (h : ∀ t, Fst f S m t → b1 < t) : Wave ns qs r f b0 old (S ++ [(m, b1)]) b1 (fun c => if c = m then some b1 else last c) ∧ ∀ x t, t ≤ b1 → (Fst f (S ++ [(m, b1)]) x t ↔ Fst f S x t ∨ x = m ∧ t = b1) := by
  have le := W.le
  have near : ∀ x d, f m x = some d → 0 ≤ d ∧ (x ≠ m → 0 < d) := fun x d hd => by
    obtain ⟨_, g1, _, g2⟩ := L.dom _ _ _ hd
    exact ⟨g1, fun ne => g2 ne.symm⟩
  have key : ∀ x t, t ≤ b1 → (Fst f (S ++ [(m, b1)]) x t ↔ Fst f S x t ∨ x = m ∧ t = b1) := fun x t ht => by
    constructor
    · rintro ⟨⟨s, h1, d, h2, h3⟩, h4⟩
      rcases List.mem_append.mp h1 with q | q
      · exact .inl ⟨⟨s, q, d, h2, h3⟩, fun s hs => h4 s (List.mem_append_left _ hs)⟩
      · obtain rfl := List.mem_singleton.mp q
        have := near x d h2
        refine .inr ?_
        replace h3 : t = b1 + d := h3
        by_cases e : x = m
        · exact ⟨e, by omega⟩
        · have := this.2 e
          omega
    · rintro (h1 | ⟨rfl, rfl⟩)
      · refine ⟨let ⟨s, g, g'⟩ := h1.1; ⟨s, List.mem_append_left _ g, g'⟩, fun s hs d hd => ?_⟩
        rcases List.mem_append.mp hs with q | q
        · exact h1.2 s q d hd
        · obtain rfl := List.mem_singleton.mp q
          have := (near x d hd).1
          show t ≤ b1 + d
          omega
      · refine ⟨⟨(x, t), List.mem_append_right _ (List.mem_singleton.mpr rfl), 0, L.self x hm, by show t = t + 0; omega⟩, fun s hs d hd => ?_⟩
        rcases List.mem_append.mp hs with q | q
        · obtain ⟨u, hu, lu⟩ := Fst.of (f := f) (x := x) (t0 := s.2 + d) ⟨s, q, d, hd, Int.le_refl _⟩
          have := h u hu
          omega
        · obtain rfl := List.mem_singleton.mp q
          have := (near x d hd).1
          show t ≤ t + d
          omega
  refine ⟨⟨le, fun s hs => ?_, fun x t ht l => ?_, fun x hx => ?_⟩, key⟩
  · rcases List.mem_append.mp hs with q | q
    · exact W.at_ s q
    · obtain rfl := List.mem_singleton.mp q
      exact ⟨hm, le, Int.le_refl _⟩
  · rcases (key x t l).mp ht with q | ⟨rfl, rfl⟩
    · show (if x = m then some b1 else last x) = _
      rw [if_neg fun e => by subst e; have := h t q; omega]
      exact W.hit x t q l
    · show (if x = x then some t else last x) = _
      rw [if_pos rfl]
  · have ne : x ≠ m := fun e => by
      subst e
      have := hx b1 ((key x b1 (Int.le_refl _)).mpr (.inr ⟨rfl, rfl⟩))
      omega
    show (if x = m then some b1 else last x) = _
    rw [if_neg ne]
    refine W.miss x fun t ht => ?_
    by_cases c : t ≤ b1
    · exact hx t ((key x t c).mpr (.inl ht))
    · omega
/-- all is over -/
theorem Wave.over (W : Wave ns qs r f b0 old S b1 last) (L : LeastOk ns qs f) {n : Int} (hn : ∀ s ∈ S, s.2 + 42 ≤ n) (ho : ∀ x l, old x = some l → l + 30 ≤ b0) (hb : b0 ≤ n) : ∀ x l, last x = some l → l ≤ n := fun x l h => by
  by_cases c : ∃ t, Fst f S x t ∧ t ≤ b1
  · obtain ⟨t, h1, h2⟩ := c
    rw [W.hit x t h1 h2] at h
    cases h
    obtain ⟨s, g1, d, g2, g3⟩ := h1.1
    have := hn s g1
    have := (L.dom _ _ _ g2).2.2.1
    omega
  · rw [W.miss x fun t h1 => by
      by_cases q : t ≤ b1
      · exact absurd ⟨t, h1, q⟩ c
      · omega] at h
    have := ho x l h
    omega
theorem Fst.soon (L : LeastOk ns qs f) {n : Int} (hn : ∀ s ∈ S, s.2 + 42 ≤ n) (h : Fst f S x t) : t ≤ n := by
  obtain ⟨s, g1, d, g2, g3⟩ := h.1
  have := hn s g1
  have := (L.dom _ _ _ g2).2.2.1
  omega
end
theorem runC_nodup {qs : List Way} {r : Int} {ns : List Str} (hn : ns.Nodup) {b : Int} {last : Str → Option Int} : ∀ n : Nat, (runC qs r ns b n last).Nodup
  | 0 => List.Pairwise.nil
  | n + 1 => by
    rw [runC_succ]
    refine List.nodup_append.mpr ⟨runC_nodup hn n, ?_, fun x hx y hy => ?_⟩
    · refine List.pairwise_map.mpr ?_
      unfold callers
      exact (hn.filter _).imp fun h e => h (by cases e; rfl)
    · obtain ⟨c, _, rfl⟩ := List.mem_map.mp hy
      have := (runC_beats hx).2.1
      intro e
      rw [e] at this
      have : b + (n : Int) + 1 ≤ b + n := this
      omega
end DL

set_option maxHeartbeats 4000000
/-! a row that is never come to; sum and max of numbers -/
namespace DL
open PySem PySem.Spec PyProof.Rows L2 RZ
section
variable {X : Cx} {o e : Expr} {es : List Expr} {pos apos cpos : Pos} {to te : TE} {t : TA} {Mo : DEx} {MA : DAx}
def mNever : DSx := fun _ _ _ => False
theorem ds_never {st : Stmt} : DS X st (fun _ _ _ => False) mNever := ⟨⟨fun _ _ _ _ _ _ h => h.elim⟩, fun _ _ _ _ _ _ _ _ m _ => m.elim⟩
theorem ints_dp {H : Hp} : ∀ {ns : List Int} {vs : List V}, DpAll K0 H vs (ns.map PyData.int) → vs = ns.map V.int
  | [], _, .nil => rfl
  | _ :: _, _, .cons (.int _) r => by rw [ints_dp r]; rfl
def oSumI : DO1 := fun a μ P => ∃ ns : List Int, AsData μ a (.list (ns.map PyData.int)) ∧ P (.dat (.int ns.sum)) μ
theorem as_ints {K : PySem.W.Frag} {H : Hp} {μ : Mu} {x : V} {a : AV} {ns : List Int} (hm : HM K H μ) (rx : RelA K (hid H μ) x a) (h : AsData μ a (.list (ns.map PyData.int))) : ∃ l, x = .ref l ∧ SqL K H l (ns.map V.int) := by
  rcases h with rfl | ⟨p, ds', rfl, hp, e⟩
  · obtain ⟨p1, v1, e1, h1, a1⟩ := dp_list rx
    rw [ints_dp a1] at h1
    exact ⟨p1, e1, .inl (rd_mono (hid_same H μ) h1)⟩
  · cases e
    obtain ⟨xs, h1, h2⟩ := hm.lst hp
    rw [ints_dp (relAs_dat.mpr h2)] at h1
    exact ⟨p, rx, .inl (.inl h1)⟩
theorem so_sumI {K : PySem.W.Frag} : SO1 K (fun x H Q => rSum K [x] H Q) oSumI := fun x H Q a μ P hm rx ⟨ns, ha, p⟩ c => by
  obtain ⟨l, rfl, h1⟩ := as_ints hm rx ha
  exact ⟨l, ns, rfl, h1, c.here hm (rI _) p⟩
def oMaxI : DO1 := fun a μ P => ∃ ns : List Int, AsData μ a (.list (ns.map PyData.int)) ∧ 0 < ns.length ∧ ∀ m ∈ ns, (∀ j ∈ ns, j ≤ m) → P (.dat (.int m)) μ
theorem so_maxI {K : PySem.W.Frag} : SO1 K (fun x H Q => rMax K [x] H Q) oMaxI := fun x H Q a μ P hm rx ⟨ns, ha, hne, p⟩ c => by
  obtain ⟨l, rfl, h1⟩ := as_ints hm rx ha
  exact ⟨l, ns, rfl, h1, hne, fun m hmem hmax => c.here hm (rI _) (p m hmem hmax)⟩
end
end DL

set_option maxHeartbeats 4000000
/-! how far callers lie, told by a function; a wave that goes round for ever -/
namespace DL
open PySem PyProof.Rows
open Classical
section
variable {qs : List Way} {r : Int} {ns : List Str} {f : Tab} {a : Str}
/-- the beats from a are D's, if D grows by a way's beats at most, and from some neighbour by just as many -/
theorem least_is (L : LeastOk ns qs f) (hw : WOk r qs) (ha : a ∈ ns) (D : Str → Int) (D0 : D a = 0) (lip : ∀ x y w β, sends qs x y w β → D y ≤ D x + β) (pos : ∀ x ∈ ns, 0 ≤ D x)
    (tight : ∀ x ∈ ns, x ≠ a → ∃ y w β, y ∈ ns ∧ sends qs y x w β ∧ D x = D y + β) : ∀ x ∈ ns, f a x = some (D x) := by
  have low : ∀ (n : Nat) (x : Str) (d : Int), d.toNat = n → f a x = some d → D x ≤ d := by
    intro n
    induction n using Nat.strongRecOn with
    | ind n ih =>
      intro x d hd h
      by_cases e : a = x
      · subst e
        rw [L.self a ha] at h
        cases h
        omega
      · obtain ⟨c, w, β, k, s, h1, h2⟩ := L.back a x d h e
        have hb := (hw.sends s).2.1
        have hk := (L.dom _ _ _ h1).2.1
        have := ih k.toNat (by omega) c k rfl h1
        have := lip _ _ _ _ s
        omega
  have up : ∀ (n : Nat) (x : Str), x ∈ ns → (D x).toNat = n → ∃ d, f a x = some d ∧ d ≤ D x := by
    intro n
    induction n using Nat.strongRecOn with
    | ind n ih =>
      intro x hx hn
      by_cases e : x = a
      · subst e
        exact ⟨0, L.self _ ha, by omega⟩
      · obtain ⟨y, w, β, hy, s, h1⟩ := tight x hx e
        have hb := (hw.sends s).2.1
        have := pos y hy
        obtain ⟨k, h2, h3⟩ := ih (D y).toNat (by omega) y hy rfl
        obtain ⟨d, h4, h5⟩ := L.fwd _ _ _ _ _ _ h2 s
        exact ⟨d, h4, by omega⟩
  intro x hx
  obtain ⟨d, h1, h2⟩ := up _ x hx rfl
  have := low _ x d rfl h1
  rw [h1]
  congr 1
  omega
theorem fst_one {x : Str} {t0 d : Int} (h : f a x = some d) : Fst f [(a, t0)] x (t0 + d) :=
  ⟨⟨(a, t0), List.mem_singleton.mpr rfl, d, h, rfl⟩, fun s hs e he => by
    obtain rfl := List.mem_singleton.mp hs
    rw [h] at he
    cases he
    exact Int.le_refl _⟩
theorem fst_two {c x : Str} {t0 t1 d e : Int} (h : f a x = some d) (g : f c x = some e) : Fst f [(a, t0), (c, t1)] x (min (t0 + d) (t1 + e)) := by
  have two : ∀ s ∈ [(a, t0), (c, t1)], ∀ k, f s.1 x = some k → min (t0 + d) (t1 + e) ≤ s.2 + k := fun s hs k hk => by
    rcases List.mem_cons.mp hs with rfl | hs
    · rw [h] at hk; cases hk; exact Int.min_le_left _ _
    · obtain rfl := List.mem_singleton.mp hs
      rw [g] at hk; cases hk; exact Int.min_le_right _ _
  refine ⟨?_, two⟩
  by_cases q : t0 + d ≤ t1 + e
  · exact ⟨(a, t0), List.mem_cons_self, d, h, by show _ = t0 + d; omega⟩
  · exact ⟨(c, t1), List.mem_cons_of_mem _ (List.mem_singleton.mpr rfl), e, g, by show _ = t1 + e; omega⟩
end
/-- a wave that goes round: T tells each caller's first call, W how long a round is -/
structure Circ (ns : List Str) (qs : List Way) (r W b : Int) (T : Str → Int) : Prop where
  rW : r ≤ W
  b0 : 0 ≤ b
  rg : ∀ x ∈ ns, 0 ≤ T x ∧ T x < W
  ends : ∀ x y w β, sends qs x y w β → x ∈ ns ∧ y ∈ ns
  pred : ∀ x ∈ ns, ∃ y w β, sends qs y x w β ∧ (T x = T y + β ∨ T x = 0 ∧ T y + β = W)
  nb : ∀ x y w β, sends qs y x w β → T x = T y + β ∨ T y = T x + β ∨ (T x = 0 ∧ T y + β = W) ∨ (T y = 0 ∧ T x + β = W ∧ β ≤ b)
/-- the beats of x's calls -/
def CT (T : Str → Int) (W : Int) (x : Str) (t : Int) : Prop := ∃ q : Nat, t = T x + q * W
section
variable {qs : List Way} {r W b t : Int} {ns : List Str} {T : Str → Int} {last : Str → Option Int} {x : Str}
theorem CT.one {l l' : Int} (h : CT T W x l) (g : CT T W x l') (h1 : l < l' + W) (h2 : l' < l + W) : l = l' := by
  obtain ⟨q, rfl⟩ := h
  obtain ⟨p, rfl⟩ := g
  rcases Nat.lt_trichotomy q p with c | c | c
  · have : ((q : Int) + 1) * W ≤ p * W ∨ W < 0 := by
      by_cases w : W < 0
      · exact .inr w
      · exact .inl (Int.mul_le_mul_of_nonneg_right (by omega) (by omega))
    rw [Int.add_mul, Int.one_mul] at this
    omega
  · rw [c]
  · have : ((p : Int) + 1) * W ≤ q * W ∨ W < 0 := by
      by_cases w : W < 0
      · exact .inr w
      · exact .inl (Int.mul_le_mul_of_nonneg_right (by omega) (by omega))
    rw [Int.add_mul, Int.one_mul] at this
    omega
theorem CT.next {l : Int} (h : CT T W x l) : CT T W x (l + W) := by
  obtain ⟨q, rfl⟩ := h
  exact ⟨q + 1, by rw [Int.natCast_add, Int.add_mul]; show _ = _ + (_ + 1 * W); omega⟩
/-- the latest at t -/
theorem CT.latest (hW : 0 < W) {l : Int} (h : CT T W x l) (hl : l ≤ t) : ∃ m, CT T W x m ∧ l ≤ m ∧ m ≤ t ∧ t < m + W := by
  have key : ∀ (n : Nat) (l : Int), CT T W x l → l ≤ t → (t - l).toNat = n → ∃ m, CT T W x m ∧ l ≤ m ∧ m ≤ t ∧ t < m + W := by
    intro n
    induction n using Nat.strongRecOn with
    | ind n ih =>
      intro l h hl hn
      by_cases c : t < l + W
      · exact ⟨l, h, Int.le_refl _, hl, c⟩
      · obtain ⟨m, h1, h2, h3, h4⟩ := ih (t - (l + W)).toNat (by omega) (l + W) h.next (by omega) rfl
        exact ⟨m, h1, by omega, h3, h4⟩
  exact key _ l h hl rfl
/-- what the last calls are at t -/
def LastAt (ns : List Str) (T : Str → Int) (W t : Int) (last : Str → Option Int) : Prop := ∀ x ∈ ns, ∀ l, last x = some l ↔ CT T W x l ∧ l ≤ t ∧ t < l + W
theorem Circ.calls (C : Circ ns qs r W b T) (hw : WOk r qs) (hb : b ≤ t) (hl : LastAt ns T W t last) (hx : x ∈ ns) : callsAt qs r last (t + 1) x ↔ CT T W x (t + 1) := by
  have hr := C.rW
  have hb0 := C.b0
  have rgx := C.rg x hx
  have hW : 0 < W := by omega
  constructor
  · rintro ⟨⟨y, w, β, s, hy⟩, hm⟩
    obtain ⟨_, g1, g2⟩ := hw.sends s
    have iny := (C.ends _ _ _ _ s).1
    obtain ⟨cy, ly1, ly2⟩ := (hl y iny _).mp hy
    have back : CT T W x (t + 1 - 2 * β) → CT T W x (t + 1) := fun h => by
      obtain ⟨m, k1, k2, k3, k4⟩ := h.latest hW (t := t) (by omega)
      have := hm m ((hl x hx m).mpr ⟨k1, k3, k4⟩)
      omega
    obtain ⟨q, hq⟩ := cy
    rcases C.nb x y w β s with e | e | ⟨e1, e2⟩ | ⟨e1, e2, e3⟩
    · exact ⟨q, by omega⟩
    · exact back ⟨q, by omega⟩
    · exact ⟨q + 1, by rw [Int.natCast_add, Int.add_mul]; show _ = _ + (_ + 1 * W); omega⟩
    · cases q with
      | zero =>
        have z : ((0 : Nat) : Int) * W = 0 := Int.zero_mul W
        rw [z] at hq
        omega
      | succ q =>
        rw [Int.natCast_add, Int.add_mul] at hq
        replace hq : t + 1 - β = T y + ((q : Int) * W + 1 * W) := hq
        exact back ⟨q, by omega⟩
  · intro h
    obtain ⟨y, w, β, s, hp⟩ := C.pred x hx
    obtain ⟨_, g1, g2⟩ := hw.sends s
    have iny := (C.ends _ _ _ _ s).1
    refine ⟨⟨y, w, β, s, (hl y iny _).mpr ⟨?_, by omega, by omega⟩⟩, fun l hx' => ?_⟩
    · obtain ⟨q, hq⟩ := h
      rcases hp with e | ⟨e1, e2⟩
      · exact ⟨q, by omega⟩
      · cases q with
        | zero =>
          have z : ((0 : Nat) : Int) * W = 0 := Int.zero_mul W
          rw [z] at hq
          omega
        | succ q =>
          rw [Int.natCast_add, Int.add_mul] at hq
          replace hq : t + 1 = T x + ((q : Int) * W + 1 * W) := hq
          exact ⟨q, by omega⟩
    · obtain ⟨cl, l1, l2⟩ := (hl x hx l).mp hx'
      by_cases c : t + 1 < l + W
      · have := h.one cl c (by omega)
        omega
      · omega
theorem Circ.step (C : Circ ns qs r W b T) (hw : WOk r qs) (hb : b ≤ t) (hl : LastAt ns T W t last) : LastAt ns T W (t + 1) (stepAt qs r (t + 1) last) := fun x hx l => by
  have rgx := C.rg x hx
  unfold stepAt
  by_cases c : callsAt qs r last (t + 1) x
  · rw [if_pos c]
    have ct := (C.calls hw hb hl hx).mp c
    constructor
    · intro e
      cases e
      exact ⟨ct, by omega, by omega⟩
    · rintro ⟨h1, h2, h3⟩
      rw [h1.one ct (by omega) (by omega)]
  · rw [if_neg c, hl x hx l]
    have nc : ¬ CT T W x (t + 1) := fun z => c ((C.calls hw hb hl hx).mpr z)
    constructor
    · rintro ⟨h1, h2, h3⟩
      refine ⟨h1, by omega, ?_⟩
      by_cases e : t + 1 = l + W
      · exact absurd (e ▸ h1.next) nc
      · omega
    · rintro ⟨h1, h2, h3⟩
      refine ⟨h1, ?_, by omega⟩
      by_cases e : l = t + 1
      · exact absurd (e ▸ h1) nc
      · omega
theorem Circ.adv (C : Circ ns qs r W b T) (hw : WOk r qs) (hb : b ≤ t) (hl : LastAt ns T W t last) : ∀ n : Nat, LastAt ns T W (t + n) (adv qs r t n last)
  | 0 => by
    have e : t + ((0 : Nat) : Int) = t := by omega
    rw [e]
    exact hl
  | n + 1 => by
    rw [adv_succ]
    have e : t + ((n + 1 : Nat) : Int) = t + n + 1 := by omega
    rw [e]
    exact C.step hw (by omega) (Circ.adv C hw hb hl n)
theorem Circ.runs (C : Circ ns qs r W b T) (hw : WOk r qs) (hb : b ≤ t) (hl : LastAt ns T W t last) {n : Nat} {u : Int} : (u, x) ∈ runC qs r ns t n last ↔ x ∈ ns ∧ CT T W x u ∧ t < u ∧ u ≤ t + n := by
  rw [DL.runC_mem]
  constructor
  · rintro ⟨k, h1, h2, h3, h4⟩
    have := (C.calls hw (by omega) (C.adv hw hb hl k) h3).mp h4
    rw [← h2] at this
    exact ⟨h3, this, by omega, by omega⟩
  · rintro ⟨h1, h2, h3, h4⟩
    obtain ⟨k, hk⟩ : ∃ k : Nat, u = t + k + 1 := ⟨(u - t - 1).toNat, by omega⟩
    refine ⟨k, by omega, hk, h1, (C.calls hw (by omega) (C.adv hw hb hl k) h1).mpr ?_⟩
    rw [← hk]
    exact h2
end
end DL

set_option maxHeartbeats 4000000
/-! callers in a row, and in a ring -/
namespace DL
open PySem PyProof.Rows
open Classical
/-- the beats of the first k ways -/
def upTo (bs : Nat → Int) : Nat → Int
  | 0 => 0
  | k + 1 => upTo bs k + bs k
/-- ways from each caller to the next one -/
def lineW (zs ss : Nat → Str) (bs : Nat → Int) (n : Nat) : List Way := (List.range n).map fun k => (zs k, ss k, ss (k + 1), bs k)
def lastW (zs ss : Nat → Str) (bs : Nat → Int) (m : Nat) : Way := (zs (m - 1), ss 0, ss (m - 1), bs (m - 1))
theorem line_sends {zs ss : Nat → Str} {bs : Nat → Int} {n : Nat} {x y w : Str} {β : Int} : sends (lineW zs ss bs n) x y w β ↔ ∃ k, k < n ∧ zs k = w ∧ bs k = β ∧ ((ss k = x ∧ ss (k + 1) = y) ∨ (ss (k + 1) = x ∧ ss k = y)) := by
  unfold sends lineW
  constructor
  · rintro ⟨q, hq, h⟩
    obtain ⟨k, hk, rfl⟩ := List.mem_map.mp hq
    exact ⟨k, List.mem_range.mp hk, h⟩
  · rintro ⟨k, hk, h⟩
    exact ⟨_, List.mem_map.mpr ⟨k, List.mem_range.mpr hk, rfl⟩, h⟩
theorem sends_app {q1 q2 : List Way} {x y w : Str} {β : Int} : sends (q1 ++ q2) x y w β ↔ sends q1 x y w β ∨ sends q2 x y w β := by
  unfold sends
  constructor
  · rintro ⟨q, hq, h⟩
    exact (List.mem_append.mp hq).imp (fun g => ⟨q, g, h⟩) fun g => ⟨q, g, h⟩
  · rintro (⟨q, hq, h⟩ | ⟨q, hq, h⟩)
    · exact ⟨q, List.mem_append_left _ hq, h⟩
    · exact ⟨q, List.mem_append_right _ hq, h⟩
theorem sends_one {q : Way} {x y w : Str} {β : Int} : sends [q] x y w β ↔ q.1 = w ∧ q.2.2.2 = β ∧ ((q.2.1 = x ∧ q.2.2.1 = y) ∨ (q.2.2.1 = x ∧ q.2.1 = y)) := by
  unfold sends
  constructor
  · rintro ⟨q', hq, h⟩
    obtain rfl := List.mem_singleton.mp hq
    exact h
  · intro h
    exact ⟨q, List.mem_singleton.mpr rfl, h⟩
/-- a caller's place -/
noncomputable def place (ss : Nat → Str) (m : Nat) (x : Str) : Nat := if h : ∃ k, k < m ∧ ss k = x then choose h else 0
section
variable {zs ss : Nat → Str} {bs : Nat → Int} {m : Nat}
theorem place_at (inj : ∀ i j, i < m → j < m → ss i = ss j → i = j) {k : Nat} (hk : k < m) : place ss m (ss k) = k := by
  unfold place
  have h : ∃ j, j < m ∧ ss j = ss k := ⟨k, hk, rfl⟩
  rw [dif_pos h]
  have g := choose_spec h
  exact inj _ _ g.1 hk g.2
theorem upTo_le (hp : ∀ k, k < m → 1 ≤ bs k) : ∀ {j k : Nat}, j ≤ k → k ≤ m → upTo bs j ≤ upTo bs k := by
  intro j k
  induction k with
  | zero => intro h _; rw [show j = 0 by omega]; exact Int.le_refl _
  | succ k ih =>
    intro h hm
    by_cases e : j = k + 1
    · rw [e]; exact Int.le_refl _
    · have := ih (by omega) (by omega)
      have := hp k (by omega)
      show upTo bs j ≤ upTo bs k + bs k
      omega
variable {r : Int} {f : Tab}
/-- a row: from its first caller -/
theorem line_first (hm : 1 ≤ m) (inj : ∀ i j, i < m → j < m → ss i = ss j → i = j) (hp : ∀ k, k < m → 1 ≤ bs k) (hw : WOk r (lineW zs ss bs (m - 1))) (L : LeastOk ((List.range m).map ss) (lineW zs ss bs (m - 1)) f) {k : Nat} (hk : k < m) : f (ss 0) (ss k) = some (upTo bs k) := by
  have at_ : ∀ {x}, x ∈ (List.range m).map ss → ∃ k, k < m ∧ ss k = x := fun {x} hx => by
    obtain ⟨k, h1, h2⟩ := List.mem_map.mp hx
    exact ⟨k, List.mem_range.mp h1, h2⟩
  have mem : ∀ {k}, k < m → ss k ∈ (List.range m).map ss := fun {k} h => List.mem_map.mpr ⟨k, List.mem_range.mpr h, rfl⟩
  have := least_is L hw (mem (by omega : 0 < m)) (fun x => upTo bs (place ss m x)) (by show upTo bs (place ss m (ss 0)) = 0; rw [place_at inj (by omega)]; rfl) (fun x y w β s => ?_) (fun x hx => ?_) (fun x hx ne => ?_) (ss k) (mem hk)
  · rw [place_at inj hk] at this
    exact this
  · obtain ⟨k, h1, _, rfl, h | h⟩ := line_sends.mp s
    · obtain ⟨rfl, rfl⟩ := h
      show upTo bs (place ss m (ss (k + 1))) ≤ upTo bs (place ss m (ss k)) + bs k
      rw [place_at inj (by omega), place_at inj (by omega)]
      exact Int.le_refl _
    · obtain ⟨rfl, rfl⟩ := h
      show upTo bs (place ss m (ss k)) ≤ upTo bs (place ss m (ss (k + 1))) + bs k
      rw [place_at inj (by omega), place_at inj (by omega)]
      have := hp k (by omega)
      show _ ≤ upTo bs k + bs k + bs k
      omega
  · obtain ⟨k, h1, rfl⟩ := at_ hx
    show 0 ≤ upTo bs (place ss m (ss k))
    rw [place_at inj h1]
    exact upTo_le hp (Nat.zero_le k) (by omega)
  · obtain ⟨k, h1, rfl⟩ := at_ hx
    obtain ⟨j, rfl⟩ : ∃ j, k = j + 1 := ⟨k - 1, by have : k ≠ 0 := fun z => ne (by rw [z]); omega⟩
    refine ⟨ss j, zs j, bs j, mem (by omega), line_sends.mpr ⟨j, by omega, rfl, rfl, .inl ⟨rfl, rfl⟩⟩, ?_⟩
    show upTo bs (place ss m (ss (j + 1))) = upTo bs (place ss m (ss j)) + bs j
    rw [place_at inj (by omega), place_at inj (by omega)]
    rfl
/-- .. from its last -/
theorem line_last (hm : 1 ≤ m) (inj : ∀ i j, i < m → j < m → ss i = ss j → i = j) (hp : ∀ k, k < m → 1 ≤ bs k) (hw : WOk r (lineW zs ss bs (m - 1))) (L : LeastOk ((List.range m).map ss) (lineW zs ss bs (m - 1)) f) {k : Nat} (hk : k < m) : f (ss (m - 1)) (ss k) = some (upTo bs (m - 1) - upTo bs k) := by
  have at_ : ∀ {x}, x ∈ (List.range m).map ss → ∃ k, k < m ∧ ss k = x := fun {x} hx => by
    obtain ⟨k, h1, h2⟩ := List.mem_map.mp hx
    exact ⟨k, List.mem_range.mp h1, h2⟩
  have mem : ∀ {k}, k < m → ss k ∈ (List.range m).map ss := fun {k} h => List.mem_map.mpr ⟨k, List.mem_range.mpr h, rfl⟩
  have := least_is L hw (mem (by omega : m - 1 < m)) (fun x => upTo bs (m - 1) - upTo bs (place ss m x)) (by show upTo bs (m - 1) - upTo bs (place ss m (ss (m - 1))) = 0; rw [place_at inj (by omega)]; omega) (fun x y w β s => ?_) (fun x hx => ?_) (fun x hx ne => ?_) (ss k) (mem hk)
  · rw [place_at inj hk] at this
    exact this
  · obtain ⟨k, h1, _, rfl, h | h⟩ := line_sends.mp s
    · obtain ⟨rfl, rfl⟩ := h
      show upTo bs (m - 1) - upTo bs (place ss m (ss (k + 1))) ≤ upTo bs (m - 1) - upTo bs (place ss m (ss k)) + bs k
      rw [place_at inj (by omega), place_at inj (by omega)]
      have := hp k (by omega)
      show _ - (upTo bs k + bs k) ≤ _
      omega
    · obtain ⟨rfl, rfl⟩ := h
      show upTo bs (m - 1) - upTo bs (place ss m (ss k)) ≤ upTo bs (m - 1) - upTo bs (place ss m (ss (k + 1))) + bs k
      rw [place_at inj (by omega), place_at inj (by omega)]
      show _ ≤ _ - (upTo bs k + bs k) + bs k
      omega
  · obtain ⟨k, h1, rfl⟩ := at_ hx
    show 0 ≤ upTo bs (m - 1) - upTo bs (place ss m (ss k))
    rw [place_at inj h1]
    have := upTo_le hp (by omega : k ≤ m - 1) (by omega)
    omega
  · obtain ⟨k, h1, rfl⟩ := at_ hx
    have hk1 : k + 1 < m := by
      have : k ≠ m - 1 := fun z => ne (by rw [z])
      omega
    refine ⟨ss (k + 1), zs k, bs k, mem hk1, line_sends.mpr ⟨k, by omega, rfl, rfl, .inr ⟨rfl, rfl⟩⟩, ?_⟩
    show upTo bs (m - 1) - upTo bs (place ss m (ss k)) = upTo bs (m - 1) - upTo bs (place ss m (ss (k + 1))) + bs k
    rw [place_at inj (by omega), place_at inj (by omega)]
    show _ = _ - (upTo bs k + bs k) + bs k
    omega
/-- a ring: the nearer way round -/
theorem ring_first (hm : 3 ≤ m) (inj : ∀ i j, i < m → j < m → ss i = ss j → i = j) (hp : ∀ k, k < m → 1 ≤ bs k) (hw : WOk r (lineW zs ss bs (m - 1) ++ [lastW zs ss bs m])) (L : LeastOk ((List.range m).map ss) (lineW zs ss bs (m - 1) ++ [lastW zs ss bs m]) f) {k : Nat} (hk : k < m) : f (ss 0) (ss k) = some (min (upTo bs k) (upTo bs m - upTo bs k)) := by
  have at_ : ∀ {x}, x ∈ (List.range m).map ss → ∃ k, k < m ∧ ss k = x := fun {x} hx => by
    obtain ⟨k, h1, h2⟩ := List.mem_map.mp hx
    exact ⟨k, List.mem_range.mp h1, h2⟩
  have mem : ∀ {k}, k < m → ss k ∈ (List.range m).map ss := fun {k} h => List.mem_map.mpr ⟨k, List.mem_range.mpr h, rfl⟩
  have e0 : upTo bs 0 = 0 := rfl
  have em : upTo bs m = upTo bs (m - 1) + bs (m - 1) := by
    obtain ⟨j, rfl⟩ : ∃ j, m = j + 1 := ⟨m - 1, by omega⟩
    rfl
  have l0 : ∀ {k}, k ≤ m → 0 ≤ upTo bs k := fun {k} h => upTo_le hp (Nat.zero_le k) h
  have lm : ∀ {k}, k ≤ m → upTo bs k ≤ upTo bs m := fun {k} h => upTo_le hp h (Nat.le_refl m)
  let D : Nat → Int := fun k => min (upTo bs k) (upTo bs m - upTo bs k)
  have := least_is L hw (mem (by omega : 0 < m)) (fun x => D (place ss m x)) (by show D (place ss m (ss 0)) = 0; rw [place_at inj (by omega)]; show min _ _ = _; have := l0 (Nat.le_refl m); omega) (fun x y w β s => ?_) (fun x hx => ?_) (fun x hx ne => ?_) (ss k) (mem hk)
  · rw [place_at inj hk] at this
    exact this
  · show D (place ss m y) ≤ D (place ss m x) + β
    rcases sends_app.mp s with s | s
    · obtain ⟨k, h1, _, rfl, h | h⟩ := line_sends.mp s
      · obtain ⟨rfl, rfl⟩ := h
        rw [place_at inj (by omega), place_at inj (by omega)]
        have := hp k (by omega)
        show min (upTo bs k + bs k) (upTo bs m - (upTo bs k + bs k)) ≤ min (upTo bs k) (upTo bs m - upTo bs k) + bs k
        omega
      · obtain ⟨rfl, rfl⟩ := h
        rw [place_at inj (by omega), place_at inj (by omega)]
        have := hp k (by omega)
        show min (upTo bs k) (upTo bs m - upTo bs k) ≤ min (upTo bs k + bs k) (upTo bs m - (upTo bs k + bs k)) + bs k
        omega
    · obtain ⟨_, rfl, h | h⟩ := sends_one.mp s
      · obtain ⟨rfl, rfl⟩ := h
        show D (place ss m (ss (m - 1))) ≤ D (place ss m (ss 0)) + bs (m - 1)
        rw [place_at inj (by omega), place_at inj (by omega)]
        show min _ _ ≤ min _ _ + _
        have := l0 (Nat.le_refl m)
        omega
      · obtain ⟨rfl, rfl⟩ := h
        show D (place ss m (ss 0)) ≤ D (place ss m (ss (m - 1))) + bs (m - 1)
        rw [place_at inj (by omega), place_at inj (by omega)]
        show min _ _ ≤ min _ _ + _
        have := hp (m - 1) (by omega)
        have := l0 (by omega : m - 1 ≤ m)
        omega
  · obtain ⟨k, h1, rfl⟩ := at_ hx
    show 0 ≤ D (place ss m (ss k))
    rw [place_at inj h1]
    show 0 ≤ min _ _
    have := l0 (by omega : k ≤ m)
    have := lm (by omega : k ≤ m)
    omega
  · obtain ⟨k, h1, rfl⟩ := at_ hx
    obtain ⟨j, rfl⟩ : ∃ j, k = j + 1 := ⟨k - 1, by have : k ≠ 0 := fun z => ne (by rw [z]); omega⟩
    by_cases c : upTo bs (j + 1) ≤ upTo bs m - upTo bs (j + 1)
    · refine ⟨ss j, zs j, bs j, mem (by omega), sends_app.mpr (.inl (line_sends.mpr ⟨j, by omega, rfl, rfl, .inl ⟨rfl, rfl⟩⟩)), ?_⟩
      show D (place ss m (ss (j + 1))) = D (place ss m (ss j)) + bs j
      rw [place_at inj (by omega), place_at inj (by omega)]
      have := hp j (by omega)
      have c' : upTo bs j + bs j ≤ upTo bs m - (upTo bs j + bs j) := c
      show min (upTo bs j + bs j) (upTo bs m - (upTo bs j + bs j)) = min (upTo bs j) (upTo bs m - upTo bs j) + bs j
      omega
    · by_cases e : j + 1 = m - 1
      · refine ⟨ss 0, zs (m - 1), bs (m - 1), mem (by omega), sends_app.mpr (.inr (sends_one.mpr ⟨rfl, rfl, .inl ⟨rfl, by rw [e]; rfl⟩⟩)), ?_⟩
        show D (place ss m (ss (j + 1))) = D (place ss m (ss 0)) + bs (m - 1)
        rw [place_at inj (by omega), place_at inj (by omega), e]
        rw [e] at c
        show min _ _ = min _ _ + _
        have := l0 (Nat.le_refl m)
        omega
      · refine ⟨ss (j + 1 + 1), zs (j + 1), bs (j + 1), mem (by omega), sends_app.mpr (.inl (line_sends.mpr ⟨j + 1, by omega, rfl, rfl, .inr ⟨rfl, rfl⟩⟩)), ?_⟩
        show D (place ss m (ss (j + 1))) = D (place ss m (ss (j + 1 + 1))) + bs (j + 1)
        rw [place_at inj (by omega), place_at inj (by omega)]
        have := hp (j + 1) (by omega)
        have := lm (by omega : j + 1 + 1 ≤ m)
        have e2 : upTo bs (j + 1 + 1) = upTo bs (j + 1) + bs (j + 1) := rfl
        show min (upTo bs (j + 1)) (upTo bs m - upTo bs (j + 1)) = min (upTo bs (j + 1 + 1)) (upTo bs m - upTo bs (j + 1 + 1)) + bs (j + 1)
        omega
/-- a ring whose last way is laid behind the wave: it goes round -/
theorem ring_circ {b : Int} (hm : 3 ≤ m) (inj : ∀ i j, i < m → j < m → ss i = ss j → i = j) (hp : ∀ k, k < m → 1 ≤ bs k) (hr : r ≤ upTo bs m) (hb : bs (m - 1) ≤ b) : Circ ((List.range m).map ss) (lineW zs ss bs (m - 1) ++ [lastW zs ss bs m]) r (upTo bs m) b (fun x => upTo bs (place ss m x)) := by
  have at_ : ∀ {x}, x ∈ (List.range m).map ss → ∃ k, k < m ∧ ss k = x := fun {x} hx => by
    obtain ⟨k, h1, h2⟩ := List.mem_map.mp hx
    exact ⟨k, List.mem_range.mp h1, h2⟩
  have mem : ∀ {k}, k < m → ss k ∈ (List.range m).map ss := fun {k} h => List.mem_map.mpr ⟨k, List.mem_range.mpr h, rfl⟩
  have em : upTo bs m = upTo bs (m - 1) + bs (m - 1) := by
    obtain ⟨j, rfl⟩ : ∃ j, m = j + 1 := ⟨m - 1, by omega⟩
    rfl
  have hl := hp (m - 1) (by omega)
  refine ⟨hr, by omega, fun x hx => ?_, fun x y w β s => ?_, fun x hx => ?_, fun x y w β s => ?_⟩
  · obtain ⟨k, h1, rfl⟩ := at_ hx
    show 0 ≤ upTo bs (place ss m (ss k)) ∧ upTo bs (place ss m (ss k)) < upTo bs m
    rw [place_at inj h1]
    have := upTo_le hp (Nat.zero_le k) (by omega)
    have := upTo_le hp (by omega : k + 1 ≤ m) (Nat.le_refl m)
    have := hp k h1
    have e : upTo bs (k + 1) = upTo bs k + bs k := rfl
    have e0 : upTo bs 0 = 0 := rfl
    omega
  · rcases sends_app.mp s with s | s
    · obtain ⟨k, h1, _, _, h | h⟩ := line_sends.mp s
      · obtain ⟨rfl, rfl⟩ := h
        exact ⟨mem (by omega), mem (by omega)⟩
      · obtain ⟨rfl, rfl⟩ := h
        exact ⟨mem (by omega), mem (by omega)⟩
    · obtain ⟨_, _, h | h⟩ := sends_one.mp s
      · obtain ⟨rfl, rfl⟩ := h
        exact ⟨mem (k := 0) (by omega), mem (k := m - 1) (by omega)⟩
      · obtain ⟨rfl, rfl⟩ := h
        exact ⟨mem (k := m - 1) (by omega), mem (k := 0) (by omega)⟩
  · obtain ⟨k, h1, rfl⟩ := at_ hx
    by_cases e : k = 0
    · subst e
      refine ⟨ss (m - 1), zs (m - 1), bs (m - 1), sends_app.mpr (.inr (sends_one.mpr ⟨rfl, rfl, .inr ⟨rfl, rfl⟩⟩)), .inr ⟨?_, ?_⟩⟩
      · show upTo bs (place ss m (ss 0)) = 0
        rw [place_at inj (by omega)]; rfl
      · show upTo bs (place ss m (ss (m - 1))) + bs (m - 1) = _
        rw [place_at inj (by omega), em]
    · obtain ⟨j, rfl⟩ : ∃ j, k = j + 1 := ⟨k - 1, by omega⟩
      refine ⟨ss j, zs j, bs j, sends_app.mpr (.inl (line_sends.mpr ⟨j, by omega, rfl, rfl, .inl ⟨rfl, rfl⟩⟩)), .inl ?_⟩
      show upTo bs (place ss m (ss (j + 1))) = upTo bs (place ss m (ss j)) + bs j
      rw [place_at inj (by omega), place_at inj (by omega)]
      rfl
  · show upTo bs (place ss m x) = upTo bs (place ss m y) + β ∨ upTo bs (place ss m y) = upTo bs (place ss m x) + β ∨ _
    rcases sends_app.mp s with s | s
    · obtain ⟨k, h1, _, rfl, h | h⟩ := line_sends.mp s
      · obtain ⟨rfl, rfl⟩ := h
        rw [place_at inj (by omega), place_at inj (by omega)]
        exact .inl rfl
      · obtain ⟨rfl, rfl⟩ := h
        rw [place_at inj (by omega), place_at inj (by omega)]
        exact .inr (.inl rfl)
    · have p0 : place ss m (ss 0) = 0 := place_at inj (by omega)
      have pl : place ss m (ss (m - 1)) = m - 1 := place_at inj (by omega)
      obtain ⟨_, rfl, h | h⟩ := sends_one.mp s
      · obtain ⟨rfl, rfl⟩ := h
        refine .inr (.inr (.inr ⟨?_, ?_, hb⟩))
        · show upTo bs (place ss m (ss 0)) = 0
          rw [p0]; rfl
        · show upTo bs (place ss m (ss (m - 1))) + bs (m - 1) = _
          rw [pl, em]
      · obtain ⟨rfl, rfl⟩ := h
        refine .inr (.inr (.inl ⟨?_, ?_⟩))
        · show upTo bs (place ss m (ss 0)) = 0
          rw [p0]; rfl
        · show upTo bs (place ss m (ss (m - 1))) + bs (m - 1) = _
          rw [pl, em]
end
end DL

set_option maxHeartbeats 4000000
/-! calls of waves as lists; a wave's last calls -/
namespace DL
open PySem PyProof.Rows
open Classical
theorem leC_anti {x y : Int × Str} (h : leC x y) (g : leC y x) : x = y := by
  rcases h with h | ⟨h, h'⟩ <;> rcases g with g | ⟨g, g'⟩
  · omega
  · omega
  · omega
  · exact Prod.ext h (strLe_anti h' g')
theorem perm_rise {α : Type} {R : α → α → Prop} (anti : ∀ x y, R x y → R y x → x = y) : ∀ {l m : List α}, l.Perm m → l.Pairwise R → m.Pairwise R → l = m
  | [], m, h, _, _ => (List.nil_perm.mp h).symm
  | x :: l, [], h, _, _ => absurd h.length_eq (by simp)
  | x :: l, y :: m, h, h1, h2 => by
    obtain ⟨a1, a2⟩ := List.pairwise_cons.mp h1
    obtain ⟨b1, b2⟩ := List.pairwise_cons.mp h2
    have e : x = y := by
      rcases List.mem_cons.mp (h.mem_iff.mp List.mem_cons_self) with e | hx
      · exact e
      · rcases List.mem_cons.mp (h.mem_iff.mpr List.mem_cons_self) with e | hy
        · exact e.symm
        · exact anti _ _ (a1 y hy) (b1 x hx)
    subst e
    rw [perm_rise anti h.cons_inv a2 b2]
theorem nodup_perm {α : Type} [DecidableEq α] {l m : List α} (hl : l.Nodup) (hm : m.Nodup) (h : ∀ x, x ∈ l ↔ x ∈ m) : l.Perm m := (List.perm_ext_iff_of_nodup hl hm).mpr h
section
variable {qs : List Way} {r b0 b : Int} {ns : List Str} {f : Tab} {S : List (Str × Int)} {last : Str → Option Int} {x : Str} {t : Int}
theorem Wave.fresh (qs : List Way) (r b0 : Int) (ns : List Str) (f : Tab) : Wave ns qs r f b0 (fun _ => none) [] b0 (fun _ => none) :=
  ⟨Int.le_refl _, fun s hs => (by cases hs), fun x t h _ => (by obtain ⟨⟨s, hs, _⟩, _⟩ := h; cases hs), fun _ _ => rfl⟩
theorem Wave.val (W : Wave ns qs r f b0 (fun _ => none) S b last) (h : Fst f S x t) : last x = if t ≤ b then some t else none := by
  by_cases c : t ≤ b
  · rw [if_pos c]; exact W.hit x t h c
  · rw [if_neg c]
    exact W.miss x fun u hu => by have := hu.eq h; omega
/-- the calls of a run, told as a list that rises -/
theorem runC_list (hs : sortedS ns = true) (hn : ns.Nodup) {n : Nat} {L : List (Int × Str)} (hL : L.Pairwise leC) (hd : L.Nodup) (mem : ∀ t x, (t, x) ∈ L ↔ (t, x) ∈ runC qs r ns b n last) : runC qs r ns b n last = L :=
  perm_rise (fun _ _ => leC_anti) (nodup_perm (runC_nodup hn n) hd fun y => (mem y.1 y.2).symm) (runC_rise hs n) hL
theorem rise_nodup {L : List (Int × Str)} (h : L.Pairwise fun x y => x.1 < y.1) : L.Nodup := h.imp fun h e => by rw [e] at h; omega
theorem rise_leC {L : List (Int × Str)} (h : L.Pairwise fun x y => x.1 < y.1) : L.Pairwise leC := h.imp fun h => .inl h
end
section
variable {ss : Nat → Str} {bs : Nat → Int} {m : Nat}
theorem upTo_lt (hp : ∀ k, k < m → 1 ≤ bs k) {j k : Nat} (h : j < k) (hk : k ≤ m) : upTo bs j < upTo bs k := by
  have h1 := upTo_le hp (by omega : j + 1 ≤ k) hk
  have h2 : upTo bs (j + 1) = upTo bs j + bs j := rfl
  have := hp j (by omega)
  omega
/-- rounds of calls -/
def circL (ss : Nat → Str) (bs : Nat → Int) (m : Nat) (W : Int) (N : Nat) : List (Int × Str) := (List.range N).flatMap fun (q : Nat) => (List.range m).map fun k => (((q : Nat) : Int) * W + upTo bs k, ss k)
theorem circL_mem {W : Int} {N : Nat} {t : Int} {x : Str} : (t, x) ∈ circL ss bs m W N ↔ ∃ q k, q < N ∧ k < m ∧ t = (q : Int) * W + upTo bs k ∧ x = ss k := by
  unfold circL
  constructor
  · intro h
    obtain ⟨q, hq, h⟩ := List.mem_flatMap.mp h
    obtain ⟨k, hk, e⟩ := List.mem_map.mp h
    cases e
    exact ⟨q, k, List.mem_range.mp hq, List.mem_range.mp hk, rfl, rfl⟩
  · rintro ⟨q, k, hq, hk, rfl, rfl⟩
    exact List.mem_flatMap.mpr ⟨q, List.mem_range.mpr hq, List.mem_map.mpr ⟨k, List.mem_range.mpr hk, rfl⟩⟩
theorem circL_succ {W : Int} {N : Nat} : circL ss bs m W (N + 1) = circL ss bs m W N ++ (List.range m).map fun k => ((N : Int) * W + upTo bs k, ss k) := by
  unfold circL
  rw [List.range_succ, List.flatMap_append]
  simp
theorem circL_rise (hp : ∀ k, k < m → 1 ≤ bs k) : ∀ N : Nat, (circL ss bs m (upTo bs m) N).Pairwise fun x y => x.1 < y.1
  | 0 => List.Pairwise.nil
  | N + 1 => by
    rw [circL_succ]
    refine List.pairwise_append.mpr ⟨circL_rise hp N, List.pairwise_map.mpr (List.Pairwise.imp_of_mem (fun {a b} _ hb (h : a < b) => ?_) List.pairwise_lt_range), fun x hx y hy => ?_⟩
    · have := upTo_lt hp h (by have := List.mem_range.mp hb; omega)
      show (N : Int) * upTo bs m + upTo bs a < N * upTo bs m + upTo bs b
      omega
    · obtain ⟨t, c⟩ := x
      obtain ⟨q, k, hq, hk, rfl, rfl⟩ := circL_mem.mp hx
      obtain ⟨j, hj, rfl⟩ := List.mem_map.mp hy
      have h0 := upTo_le hp (Nat.zero_le j) (by have := List.mem_range.mp hj; omega)
      have e0 : upTo bs 0 = 0 := rfl
      have h1 := upTo_lt hp hk (Nat.le_refl m)
      have h2 := upTo_le hp (Nat.zero_le m) (Nat.le_refl m)
      have : ((q : Int) + 1) * upTo bs m ≤ N * upTo bs m := Int.mul_le_mul_of_nonneg_right (by omega) (by omega)
      rw [Int.add_mul, Int.one_mul] at this
      show (q : Int) * upTo bs m + upTo bs k < N * upTo bs m + upTo bs j
      omega
end
end DL

set_option maxHeartbeats 4000000
/-! a, b, .. = a list -/
namespace DL
open PySem PySem.Spec PyProof.Rows L2 RZ
section
variable {X : Cx} {es : List Expr} {pos : Pos}
def mgLstU (n : Nat) (Gs : List AV → Dl → Mu → (Dl → Mu → Prop) → Prop) : DGx := fun a δ μ P => ∃ ds, a = .dat (.list ds) ∧ ds.length = n ∧ Gs (ds.map AV.dat) δ μ P
theorem dg_tupL {K : PySem.W.Frag} {k : Nat} {gs : TGs} {Gs} {n : Nat} {vs : List Nat} (hK : X.K = K) (hc : X.calm = true) (h : DGs X es gs Gs vs) (hn : (assignEach es X.env).length = n := by rfl) (hst : (assignEach es X.env).findIdx? (·.1) = none := by rfl) : DG X (.Tuple es k pos) (gLst K n gs) (mgLstU n Gs) vs := by
  subst hK
  exact ⟨pg_lst hc h.pgs hn hst, fun v σ H Q a δ μ P R hm r ⟨ds, ea, hl, m⟩ c => by
    subst ea
    obtain ⟨p1, v1, rfl, h1, a1⟩ := dp_list r
    exact ⟨p1, v1, rfl, .inl (rd_mono (hid_same H μ) h1), by rw [dpAll_len a1]; exact hl, h.sgs v1 σ H Q _ δ μ P R hm (relAs_dat.mp a1) m c⟩⟩
end
end DL

set_option maxHeartbeats 4000000
namespace DL
open PySem PySem.Spec PyProof.Rows L2 RZ PySem.Calls
theorem plain_hpush : plainId "_heapq.heappush" = true := by decide +kernel
theorem entry_hpush : entryFor table "_heapq.heappush" = some Builtin.«_heapq.heappush» := entryFor_of_tree (by kernel_rfl)
theorem args_hpush (a b : Value) : argsOk "_heapq.heappush" ⟨[a, b], []⟩ := by unfold argsOk; kernel_rfl
theorem kind_hpop : builtinKind "_heapq.heappop" = none := by kernel_rfl
theorem kind_hpush : builtinKind "_heapq.heappush" = none := by kernel_rfl
theorem plain_hpop : plainId "_heapq.heappop" = true := by decide +kernel
theorem entry_hpop : entryFor table "_heapq.heappop" = some Builtin.«_heapq.heappop» := entryFor_of_tree (by kernel_rfl)
theorem args_hpop (a : Value) : argsOk "_heapq.heappop" ⟨[a], []⟩ := by unfold argsOk; kernel_rfl
theorem plain_hsift : plainId "_heapq.heapify.sift" = true := by decide +kernel
theorem entry_hsift : entryFor table "_heapq.heapify.sift" = some Builtin.«_heapq.heapify.sift» := entryFor_of_tree (by kernel_rfl)
section
variable {E : Type}
/-- two places exchanged -/
def swapL (l : List E) (i j : Nat) (x y : E) : List E := (l.set i y).set j x
theorem swapL_perm {l : List E} {i j : Nat} {x y : E} (hi : l[i]? = some x) (hj : l[j]? = some y) : (swapL l i j x y).Perm l := by
  obtain ⟨h1, e1⟩ := List.getElem?_eq_some_iff.mp hi
  obtain ⟨h2, e2⟩ := List.getElem?_eq_some_iff.mp hj
  have p := Array.swap_perm (xs := l.toArray) (i := i) (j := j) (by simpa using h1) (by simpa using h2)
  have p' := p.toList
  rw [Array.toList_swap] at p'
  simp only [List.getElem_toArray, e1, e2] at p'
  exact p'
theorem swapL_len {l : List E} {i j : Nat} {x y : E} : (swapL l i j x y).length = l.length := by simp [swapL]
end
section
variable {prog : Program} {w : World} {A : Around} {R : Result → Shared → Prop} {E : Type} {val : E → Value} {lt : E → E → Bool} {a : Addr} {s0 : Shared} {es0 : List E}
abbrev lobj (its : List Value) (n : Nat) : Obj := { cls := .type "list", data := .seq its.toArray n }
/-- all but the list stays -/
def KeepsBut (a : Addr) (s s' : Shared) : Prop := ∀ b o, b ≠ a → s.heap.get? b = some o → s'.heap.get? b = some o
theorem KeepsBut.trans {s1 s2 s3 : Shared} (h : KeepsBut a s1 s2) (g : KeepsBut a s2 s3) : KeepsBut a s1 s3 := fun b o n e => g b o n (h b o n e)
def CmpOk (A : Around) (val : E → Value) (lt : E → E → Bool) (a : Addr) (s0 : Shared) (es0 : List E) : Prop := ∀ x ∈ es0, ∀ y ∈ es0, ∀ s, KeepsBut a s0 s → PySem.SeqAt.RcLt A s (val x) (val y) (lt x y)
theorem swap_to {es : List E} {i j n : Nat} {x y : E} {s : Shared} {Q : Unit → Shared → Prop} {EE : Value → Shared → Prop} (hS : s.heap.get? a = some (lobj (es.map val) n)) (hz : es.length ≤ sizeLine) (hi : es[i]? = some x) (hj : es[j]? = some y)
    (h : ∀ n' h', h'.get? a = some (lobj ((swapL es i j x y).map val) n') → KeepsBut a s { s with heap := h' } → Q () { s with heap := h' }) :
    wpAny (model prog w) A (updateSeq a fun xs => (xs.setIfInBounds i (val y)).setIfInBounds j (val x)) Q EE s := by
  have q := PySem.IsL.update hS (fun xs => (xs.setIfInBounds i (val y)).setIfInBounds j (val x))
  have e : ((es.map val).toArray.setIfInBounds i (val y)).setIfInBounds j (val x) = ((swapL es i j x y).map val).toArray := by
    simp [swapL, List.map_set]
  rw [e] at q
  refine wpAny_updateSeq hS rfl (h _ _ q fun b o ne g => (Heap.get?_update_other _ _ (Ne.symm ne)).trans g) (by simpa using hz) (by simp; omega)
theorem upd_to {es es' : List E} {n : Nat} {f : Array Value → Array Value} {s : Shared} {Q : Unit → Shared → Prop} {EE : Value → Shared → Prop} (hS : s.heap.get? a = some (lobj (es.map val) n)) (hz : es.length ≤ sizeLine) (hz2 : es'.length ≤ sizeLine + 1) (e : f (es.map val).toArray = (es'.map val).toArray)
    (h : ∀ n' h', h'.get? a = some (lobj (es'.map val) n') → KeepsBut a s { s with heap := h' } → Q () { s with heap := h' }) :
    wpAny (model prog w) A (updateSeq a f) Q EE s := by
  have q := PySem.IsL.update hS f
  rw [e] at q
  exact wpAny_updateSeq hS rfl (h _ _ q fun b o ne g => (Heap.get?_update_other _ _ (Ne.symm ne)).trans g) (by simpa using hz) (by rw [e]; simpa using hz2)
theorem sift_up (hcmp : CmpOk A.in1 val lt a s0 es0) (hz : es0.length ≤ 1000000) (res : Value) : ∀ (pos : Nat) (es : List E) (n : Nat) (s : Shared), es.Perm es0 → pos < es.length → s.heap.get? a = some (lobj (es.map val) n) → KeepsBut a s0 s →
    (∀ (es' : List E) (n' : Nat) (h' : Heap), es'.Perm es0 → h'.get? a = some (lobj (es'.map val) n') → KeepsBut a s0 { s with heap := h' } → R (.ok (.ret res)) { s with heap := h' }) →
    codeAny (model prog w) A (.builtin "_heapq.heapify.sift" ⟨[.ref a, .bool false, .bool false, rawInt pos, rawInt 0, res, rawInt (-1)], []⟩) R s := by
  intro pos
  induction pos using Nat.strongRecOn with
  | ind pos ih =>
  intro es n s hp hpos hS hk hR
  have hl := hp.length_eq
  have hz' : es.length ≤ sizeLine := by rw [sizeLine_eq]; omega
  refine codeAny_builtin entry_hsift ?_
  rw [Around.under_plainId plain_hsift _]
  refine wpAny_bind ?_
  show wpAny _ A.in1 (seqItems? (.ref a) >>= _) _ _ s
  refine wpAny_bind (wpAny_seqItems hS rfl (wpAny_pure ?_))
  simp only [Bool.false_eq_true, if_false, Int.toNat_natCast]
  by_cases h0 : pos = 0
  · subst h0
    rw [if_neg (by decide)]
    show wpAny _ A.in1 (ret res) _ _ s
    exact wpAny_pure (hR es n s.heap hp hS hk)
  · rw [if_pos (show pos > Int.toNat 0 from Nat.pos_of_ne_zero h0)]
    have hq : (pos - 1) / 2 < pos := by omega
    obtain ⟨x, hx⟩ : ∃ x, es[pos]? = some x := ⟨_, List.getElem?_eq_getElem hpos⟩
    obtain ⟨p, hpp⟩ : ∃ p, es[(pos - 1) / 2]? = some p := ⟨_, List.getElem?_eq_getElem (by omega)⟩
    have ax : (es.map val).toArray[pos]? = some (val x) := by simp [hx]
    have ap : (es.map val).toArray[(pos - 1) / 2]? = some (val p) := by simp [hpp]
    refine wpAny_bind ?_
    show wpAny _ A.in1 (match (es.map val).toArray[pos]? with | some v => pure v | none => _) _ _ s
    rw [ax]
    refine wpAny_pure ?_
    refine wpAny_bind ?_
    show wpAny _ A.in1 (match (es.map val).toArray[(pos - 1) / 2]? with | some v => pure v | none => _) _ _ s
    rw [ap]
    refine wpAny_pure ?_
    refine wpAny_bind (wpAny_bind (wpAny_holding (wpAny_bind (hcmp x (hp.mem_iff.mp (List.mem_of_getElem? hx)) p (hp.mem_iff.mp (List.mem_of_getElem? hpp)) s hk _ _ _ _ ?_))))
    show wpAny _ A.in1 (truthy (.bool (lt x p))) _ _ s
    refine wpAny_truthy_bool ?_
    refine wpAny_bind ?_
    show wpAny _ A.in1 (seqItems? (.ref a) >>= _) _ _ s
    refine wpAny_bind (wpAny_seqItems hS rfl (wpAny_pure ?_))
    simp only [bne_self_eq_false, Bool.false_eq_true, if_false]
    refine wpAny_pure ?_
    cases hlt : lt x p with
    | false =>
      rw [if_neg Bool.false_ne_true]
      show wpAny _ A.in1 (ret res) _ _ s
      exact wpAny_pure (hR es n s.heap hp hS hk)
    | true =>
      rw [if_pos rfl]
      refine wpAny_bind ?_
      refine wpAny_bind ?_
      show wpAny _ A.in1 (seqItems? (.ref a) >>= _) _ _ s
      refine wpAny_bind (wpAny_seqItems hS rfl (wpAny_pure ?_))
      refine wpAny_bind ?_
      show wpAny _ A.in1 (match (es.map val).toArray[(pos - 1) / 2]? with | some v => pure v | none => _) _ _ s
      rw [ap]
      refine wpAny_pure ?_
      refine wpAny_bind ?_
      show wpAny _ A.in1 (match (es.map val).toArray[pos]? with | some v => pure v | none => _) _ _ s
      rw [ax]
      refine wpAny_pure ?_
      refine swap_to hS hz' hpp hx fun n' h' g1 g2 => ?_
      refine wpAny_pure ⟨plainId_quiet plain_hsift _, ih ((pos - 1) / 2) hq _ _ _ ((swapL_perm hpp hx).trans hp) (by rw [swapL_len]; omega) g1 (hk.trans g2) fun es' n2 h2 k1 k2 k3 => hR es' n2 h2 k1 k2 k3⟩
theorem sift_down (hcmp : CmpOk A.in1 val lt a s0 es0) (hz : es0.length ≤ 1000000) (res : Value) : ∀ (k pos : Nat) (es : List E) (n : Nat) (s : Shared), es.length - pos = k → es.Perm es0 → pos < es.length → s.heap.get? a = some (lobj (es.map val) n) → KeepsBut a s0 s →
    (∀ (es' : List E) (n' : Nat) (h' : Heap), es'.Perm es0 → h'.get? a = some (lobj (es'.map val) n') → KeepsBut a s0 { s with heap := h' } → R (.ok (.ret res)) { s with heap := h' }) →
    codeAny (model prog w) A (.builtin "_heapq.heapify.sift" ⟨[.ref a, .bool false, .bool true, rawInt pos, rawInt 0, res, rawInt (-1)], []⟩) R s := by
  intro k
  induction k using Nat.strongRecOn with
  | ind k ih =>
  intro pos es n s hk0 hp hpos hS hk hR
  have hl := hp.length_eq
  have hz' : es.length ≤ sizeLine := by rw [sizeLine_eq]; omega
  have hsz : (es.map val).toArray.size = es.length := by simp
  have at_ : ∀ {i : Nat} {x : E}, es[i]? = some x → (es.map val).toArray[i]? = some (val x) := fun {i x} h => by simp [h]
  obtain ⟨y, hy⟩ : ∃ y, es[pos]? = some y := ⟨_, List.getElem?_eq_getElem hpos⟩
  refine codeAny_builtin entry_hsift ?_
  rw [Around.under_plainId plain_hsift _]
  refine wpAny_bind ?_
  show wpAny _ A.in1 (seqItems? (.ref a) >>= _) _ _ s
  refine wpAny_bind (wpAny_seqItems hS rfl (wpAny_pure ?_))
  simp only [if_true, Bool.false_eq_true, if_false, Int.toNat_natCast, hsz]
  by_cases hlow : pos < es.length / 2
  · rw [if_pos hlow]
    have hleft : 2 * pos + 1 < es.length := by omega
    by_cases h2 : 2 * pos + 1 + 1 < es.length
    · rw [if_pos h2]
      obtain ⟨l, hll⟩ : ∃ x, es[2 * pos + 1]? = some x := ⟨_, List.getElem?_eq_getElem hleft⟩
      obtain ⟨r, hrr⟩ : ∃ x, es[2 * pos + 1 + 1]? = some x := ⟨_, List.getElem?_eq_getElem h2⟩
      refine wpAny_bind ?_
      show wpAny _ A.in1 (match (es.map val).toArray[2 * pos + 1]? with | some v => pure v | none => _) _ _ s
      rw [at_ hll]
      refine wpAny_pure ?_
      refine wpAny_bind ?_
      show wpAny _ A.in1 (match (es.map val).toArray[2 * pos + 1 + 1]? with | some v => pure v | none => _) _ _ s
      rw [at_ hrr]
      refine wpAny_pure ?_
      refine wpAny_bind (wpAny_bind (wpAny_holding (wpAny_bind (hcmp l (hp.mem_iff.mp (List.mem_of_getElem? hll)) r (hp.mem_iff.mp (List.mem_of_getElem? hrr)) s hk _ _ _ _ ?_))))
      show wpAny _ A.in1 (truthy (.bool (lt l r))) _ _ s
      refine wpAny_truthy_bool ?_
      refine wpAny_bind ?_
      show wpAny _ A.in1 (seqItems? (.ref a) >>= _) _ _ s
      refine wpAny_bind (wpAny_seqItems hS rfl (wpAny_pure ?_))
      simp only [hsz, bne_self_eq_false, Bool.false_eq_true, if_false]
      refine wpAny_pure ?_
      cases hlt : lt l r with
      | false =>
        rw [if_pos (show (!false) = true from rfl)]
        obtain ⟨x, hx⟩ : ∃ x, es[2 * pos + 1 + 1]? = some x := ⟨_, List.getElem?_eq_getElem (by omega)⟩
        refine wpAny_bind ?_
        refine wpAny_bind ?_
        show wpAny _ A.in1 (seqItems? (.ref a) >>= _) _ _ s
        refine wpAny_bind (wpAny_seqItems hS rfl (wpAny_pure ?_))
        refine wpAny_bind ?_
        show wpAny _ A.in1 (match (es.map val).toArray[2 * pos + 1 + 1]? with | some v => pure v | none => _) _ _ s
        rw [at_ hx]
        refine wpAny_pure ?_
        refine wpAny_bind ?_
        show wpAny _ A.in1 (match (es.map val).toArray[pos]? with | some v => pure v | none => _) _ _ s
        rw [at_ hy]
        refine wpAny_pure ?_
        refine swap_to hS hz' hx hy fun n' h' g1 g2 => ?_
        exact wpAny_pure ⟨plainId_quiet plain_hsift _, ih (es.length - (2 * pos + 1 + 1)) (by omega) (2 * pos + 1 + 1) _ _ _ (by rw [swapL_len]) ((swapL_perm hx hy).trans hp) (by rw [swapL_len]; omega) g1 (hk.trans g2) fun es' n2 h2 k1 k2 k3 => hR es' n2 h2 k1 k2 k3⟩
      | true =>
        rw [if_neg (show ¬ (!true) = true by decide)]
        obtain ⟨x, hx⟩ : ∃ x, es[2 * pos + 1]? = some x := ⟨_, List.getElem?_eq_getElem (by omega)⟩
        refine wpAny_bind ?_
        refine wpAny_bind ?_
        show wpAny _ A.in1 (seqItems? (.ref a) >>= _) _ _ s
        refine wpAny_bind (wpAny_seqItems hS rfl (wpAny_pure ?_))
        refine wpAny_bind ?_
        show wpAny _ A.in1 (match (es.map val).toArray[2 * pos + 1]? with | some v => pure v | none => _) _ _ s
        rw [at_ hx]
        refine wpAny_pure ?_
        refine wpAny_bind ?_
        show wpAny _ A.in1 (match (es.map val).toArray[pos]? with | some v => pure v | none => _) _ _ s
        rw [at_ hy]
        refine wpAny_pure ?_
        refine swap_to hS hz' hx hy fun n' h' g1 g2 => ?_
        exact wpAny_pure ⟨plainId_quiet plain_hsift _, ih (es.length - (2 * pos + 1)) (by omega) (2 * pos + 1) _ _ _ (by rw [swapL_len]) ((swapL_perm hx hy).trans hp) (by rw [swapL_len]; omega) g1 (hk.trans g2) fun es' n2 h2 k1 k2 k3 => hR es' n2 h2 k1 k2 k3⟩
    · rw [if_neg h2]
      obtain ⟨x, hx⟩ : ∃ x, es[2 * pos + 1]? = some x := ⟨_, List.getElem?_eq_getElem (by omega)⟩
      refine wpAny_bind ?_
      refine wpAny_bind ?_
      show wpAny _ A.in1 (seqItems? (.ref a) >>= _) _ _ s
      refine wpAny_bind (wpAny_seqItems hS rfl (wpAny_pure ?_))
      refine wpAny_bind ?_
      show wpAny _ A.in1 (match (es.map val).toArray[2 * pos + 1]? with | some v => pure v | none => _) _ _ s
      rw [at_ hx]
      refine wpAny_pure ?_
      refine wpAny_bind ?_
      show wpAny _ A.in1 (match (es.map val).toArray[pos]? with | some v => pure v | none => _) _ _ s
      rw [at_ hy]
      refine wpAny_pure ?_
      refine swap_to hS hz' hx hy fun n' h' g1 g2 => ?_
      exact wpAny_pure ⟨plainId_quiet plain_hsift _, ih (es.length - (2 * pos + 1)) (by omega) (2 * pos + 1) _ _ _ (by rw [swapL_len]) ((swapL_perm hx hy).trans hp) (by rw [swapL_len]; omega) g1 (hk.trans g2) fun es' n2 h2 k1 k2 k3 => hR es' n2 h2 k1 k2 k3⟩
  · rw [if_neg hlow]
    refine wpAny_pure ⟨plainId_quiet plain_hsift _, sift_up hcmp hz res pos es n s hp hpos hS hk hR⟩
/-- heappop: a thing that was there, and the others, in some order -/
theorem call_hpop {Q : Value → Shared → Prop} {EE : Value → Shared → Prop} {es : List E} {n : Nat} {s : Shared} (hc : A.handled = none) (hcmp : CmpOk A.in1 val lt a s es) (hz : es.length ≤ 1000000) (hne : es ≠ []) (hS : s.heap.get? a = some (lobj (es.map val) n))
    (h : ∀ (e : E) (es' : List E) (n' : Nat) (h' : Heap), (e :: es').Perm es → h'.get? a = some (lobj (es'.map val) n') → KeepsBut a s { s with heap := h' } → Q (val e) { s with heap := h' }) :
    wpAny (model prog w) A (call (.builtin "_heapq.heappop") [.ref a]) Q EE s := by
  have hT : s.TypeIs (.ref a) "list" := ⟨_, hS, rfl⟩
  refine call_function_tree kind_hpop plain_hpop entry_hpop (args_hpop _) ?_
  have hsz : (es.map val).toArray.size = es.length := by simp
  have hz' : es.length ≤ sizeLine := by rw [sizeLine_eq]; omega
  have hpos : 0 < es.length := List.length_pos_iff.mpr hne
  unfold Builtin.«_heapq.heappop»
  refine wpAny_bind ?_
  refine wpAny_bind (wpAny_of_eq (show oneArg _ _ = pure (Value.ref a) from rfl) ?_)
  refine wpAny_bind ?_
  refine wpAny_bind (wpAny_isInstance hT (b := true) ?_ ?_)
  · rfl
  refine wpAny_pure ?_
  refine wpAny_pure ?_
  refine wpAny_bind ?_
  show wpAny _ A.in1 (seqItems? (.ref a) >>= _) _ _ s
  refine wpAny_bind (wpAny_seqItems hS rfl (wpAny_pure ?_))
  obtain ⟨D, last, rfl⟩ : ∃ D last, es = D ++ [last] := ⟨es.dropLast, es.getLast hne, (List.dropLast_concat_getLast hne).symm⟩
  rw [List.length_append, List.length_singleton] at hz hz'
  have hb : ((D ++ [last]).map val).toArray.back? = some (val last) := by simp
  rw [hb]
  refine wpAny_bind ?_
  refine upd_to (es' := D) hS (by rw [List.length_append, List.length_singleton]; exact hz') (by omega) (by simp) fun n1 h1 g1 k1 => ?_
  cases D with
  | nil =>
    rw [if_pos (by simp)]
    exact wpAny_pure (h last [] n1 h1 (List.Perm.refl _) g1 k1)
  | cons f0 D' =>
    rw [if_neg (by simp)]
    refine wpAny_bind ?_
    have a0 : ((f0 :: D' ++ [last]).map val).toArray[0]? = some (val f0) := by simp
    show wpAny _ A.in1 (match ((f0 :: D' ++ [last]).map val).toArray[0]? with | some v => pure v | none => unsupported "internal:_heapq.index") _ _ _
    rw [a0]
    refine wpAny_pure ?_
    refine wpAny_bind ?_
    refine upd_to (es' := last :: D') g1 (by rw [List.length_cons] at hz' ⊢; omega) (by rw [List.length_cons] at hz' ⊢; omega) (by simp) fun n2 h2 g2 k2 => ?_
    have hm : ∀ x ∈ last :: D', x ∈ f0 :: D' ++ [last] := fun x hx => by
      rcases List.mem_cons.mp hx with e | hx
      · subst e; simp
      · simp [hx]
    refine wpAny_pure ⟨plainId_quiet plain_hsift _, sift_down (a := a) (val := val) (lt := lt) (s0 := s) (es0 := last :: D') (fun x hx y hy => hcmp x (hm x hx) y (hm y hy)) (by rw [List.length_cons] at hz ⊢; omega) (val f0) _ 0 (last :: D') n2 _ rfl (List.Perm.refl _) (by simp) g2 (k1.trans k2) fun es' n' h' p g k => ?_⟩
    refine h f0 es' n' h' ?_ g k
    refine (p.cons f0).trans ?_
    show (f0 :: last :: D').Perm (f0 :: (D' ++ [last]))
    exact (List.perm_append_singleton last D').symm.cons f0
/-- heappush: one more, in some order -/
theorem call_hpush {Q : Value → Shared → Prop} {EE : Value → Shared → Prop} {es : List E} {e : E} {n : Nat} {s : Shared} (hc : A.handled = none) (hcmp : CmpOk A.in1 val lt a s (es ++ [e])) (hz : es.length + 1 ≤ 1000000) (hS : s.heap.get? a = some (lobj (es.map val) n))
    (h : ∀ (es' : List E) (n' : Nat) (h' : Heap), es'.Perm (es ++ [e]) → h'.get? a = some (lobj (es'.map val) n') → KeepsBut a s { s with heap := h' } → Q .none { s with heap := h' }) :
    wpAny (model prog w) A (call (.builtin "_heapq.heappush") [.ref a, val e]) Q EE s := by
  have hT : s.TypeIs (.ref a) "list" := ⟨_, hS, rfl⟩
  refine call_function_tree kind_hpush plain_hpush entry_hpush (args_hpush _ _) ?_
  have hz' : es.length + 1 ≤ sizeLine := by rw [sizeLine_eq]; omega
  unfold Builtin.«_heapq.heappush»
  refine wpAny_bind ?_
  refine wpAny_bind (wpAny_of_eq (show noKeywords _ _ = pure () from rfl) ?_)
  refine wpAny_bind (wpAny_of_eq (show checkCount _ 2 2 2 = pure () from rfl) ?_)
  refine wpAny_bind ?_
  refine wpAny_bind (wpAny_isInstance hT (b := true) rfl ?_)
  refine wpAny_pure ?_
  refine wpAny_pure ?_
  refine wpAny_bind ?_
  refine upd_to (es' := es ++ [e]) hS (by omega) (by rw [List.length_append, List.length_singleton]; omega) (by simp) fun n1 h1 g1 k1 => ?_
  refine wpAny_bind ?_
  show wpAny _ A.in1 (seqItems? (.ref a) >>= _) _ _ _
  refine wpAny_bind (wpAny_seqItems g1 rfl (wpAny_pure ?_))
  have hl : ((es ++ [e]).map val).toArray.size - 1 = es.length := by simp
  rw [hl]
  exact wpAny_pure ⟨plainId_quiet plain_hsift _, sift_up (a := a) (val := val) (lt := lt) (s0 := s) (es0 := es ++ [e]) hcmp (by rw [List.length_append, List.length_singleton]; omega) .none es.length (es ++ [e]) n1 _ (List.Perm.refl _) (by simp) g1 k1 fun es' n' h' p g k => h es' n' h' p g k⟩
end
section
variable {X : Cx}
/-- a pair of a number and a text, as it stands in the heap -/
structure PrE where
  v : V
  u : Value
  i : Int
  z : Str
def PrE.lt (x y : PrE) : Bool := PySem.W.dataLt (.tuple [.int x.i, .str x.z]) (.tuple [.int y.i, .str y.z])
def rPr (K : PySem.W.Frag) (H : Hp) (p : V × Int × Str) : Prop := ∃ q, p.1 = .ref q ∧ SqT K H q [.int p.2.1, .str p.2.2]
def rHpop (K : PySem.W.Frag) : List V → Hp → VK → Prop := fun xs H Q => ∃ (l : Addr) (ps : List (V × Int × Str)), xs = [.ref l] ∧ H l = some (.lst (ps.map (·.1))) ∧ (∀ p ∈ ps, rPr K H p) ∧ ps ≠ [] ∧ ps.length ≤ 900000 ∧
  ∀ (e : V × Int × Str) (ps' : List (V × Int × Str)), (e :: ps').Perm ps → Q e.1 (upd H l (.lst (ps'.map (·.1))))
def rHpush (K : PySem.W.Frag) : List V → Hp → VK → Prop := fun xs H Q => ∃ (l : Addr) (ps : List (V × Int × Str)) (e : V × Int × Str), xs = [.ref l, e.1] ∧ H l = some (.lst (ps.map (·.1))) ∧ (∀ p ∈ ps, rPr K H p) ∧ rPr K H e ∧ ps.length ≤ 900000 ∧
  ∀ ps' : List (V × Int × Str), ps'.Perm (ps ++ [e]) → Q .non (upd H l (.lst (ps'.map (·.1))))
/-- a pair that is to be read -/
def PrAt (a : Addr) (h : Heap) (x : PrE) : Prop := RelV x.v x.u ∧ ∃ q n t t' o, x.u = .ref q ∧ q ≠ a ∧ h.get? q = some o ∧ o.cls = .type "tuple" ∧ o.data = .seq #[.int x.i t, .str x.z t'] n
theorem pr_at {pins : List (Addr × Obj)} {σ : L2.St} {H : Hp} {s : Shared} {a : Addr} {n : Nat} {its : List Value} (I : Inv X pins σ H s) (ha : s.heap.get? a = some (lobj its n)) {p : V × Int × Str} {u : Value} (r : RelV p.1 u) (h : rPr X.K H p) : PrAt a s.heap ⟨p.1, u, p.2.1, p.2.2⟩ := by
  obtain ⟨q, e, hq⟩ := h
  rw [e] at r
  cases r
  obtain ⟨vs, rv, ⟨o, g, hc, m, hd⟩, _⟩ := I.tuple hq
  obtain ⟨v1, v2, rfl, ⟨t, rfl⟩, ⟨t', rfl⟩⟩ := vals2 rv
  exact ⟨by rw [e]; rfl, q, m, t, t', o, rfl, fun z => by rw [z, ha] at g; cases g; exact absurd (show Value.type "list" = Value.type "tuple" from hc) (by decide), g, hc, hd⟩
theorem pr_all {pins : List (Addr × Obj)} {σ : L2.St} {H : Hp} {s : Shared} {a : Addr} {n : Nat} {jts : List Value} (I : Inv X pins σ H s) (ha : s.heap.get? a = some (lobj jts n)) : ∀ {ps : List (V × Int × Str)} {its : List Value}, Vals (ps.map (·.1)) its → (∀ p ∈ ps, rPr X.K H p) →
    ∃ es : List PrE, es.map (·.u) = its ∧ es.map (fun x => (x.v, x.i, x.z)) = ps ∧ ∀ x ∈ es, PrAt a s.heap x
  | [], _, .nil, _ => ⟨[], rfl, rfl, fun x hx => nomatch hx⟩
  | p :: ps, u :: its, .cons r rr, h => by
    obtain ⟨es, h1, h2, h3⟩ := pr_all I ha rr fun p hp => h p (List.mem_cons_of_mem _ hp)
    refine ⟨⟨p.1, u, p.2.1, p.2.2⟩ :: es, by rw [List.map_cons, h1], by rw [List.map_cons, h2], fun x hx => ?_⟩
    rcases List.mem_cons.mp hx with e | hx
    · subst e
      exact pr_at I ha r (h p List.mem_cons_self)
    · exact h3 x hx
theorem pr_cmp {A : Around} {a : Addr} {s : Shared} {es : List PrE} (hu : A.units + 1 < cLine) (h : ∀ x ∈ es, PrAt a s.heap x) : CmpOk A (·.u) PrE.lt a s es := fun x hx y hy s' k => by
  have rd : ∀ z ∈ es, PySem.Reads s'.heap z.u (.tuple [.int z.i, .str z.z]) ([] ++ ([] ++ [])) := fun z hz => by
    obtain ⟨_, q, n, t, t', o, e, ne, g, hc, hd⟩ := h z hz
    rw [e]
    exact .tuple (k q o ne g) hc hd (.cons (.int _ _) (.cons (.str _ _) .nil))
  exact PySem.W.rcLt_alike _ _ A s' x.u y.u _ _ (rd x hx) (rd y hy) (by simp [PySem.W.alike, PySem.W.alikeAll]) (by simp) (by simp [PyData.depth, PyData.depthAll]; omega)
theorem vals_es : ∀ {es : List PrE}, (∀ x ∈ es, RelV x.v x.u) → Vals (es.map (·.v)) (es.map (·.u))
  | [], _ => .nil
  | x :: es, h => .cons (h x List.mem_cons_self) (vals_es fun y hy => h y (List.mem_cons_of_mem _ hy))
theorem es_ps (es : List PrE) : (es.map fun x => (x.v, x.i, x.z)).map (·.1) = es.map (·.v) := by rw [List.map_map]; rfl
theorem cr_hpop (hc : X.calm = true) (hu : X.A.units + 64 < cLine) : CallR X (.builtin "_heapq.heappop") (rHpop X.K) := by
  intro pins s σ H xs us Q I r ⟨l, ps, e, hH, hps, hne, hz, q⟩
  subst e
  obtain ⟨u, rfl, ru⟩ := vals1 r
  obtain rfl : u = Value.ref l := ru
  obtain ⟨z, its, n, rv, hl, g⟩ := I.lstM hH
  obtain ⟨es, e1, e2, h3⟩ := pr_all I g rv hps
  subst e1 e2
  have hzl : es.length ≤ 900000 := by simpa using hz
  refine call_hpop (val := (·.u)) (lt := PrE.lt) (I.ok.hd hc) (pr_cmp (by show X.A.units + 1 + 1 < cLine; omega) h3) (by omega) (fun z => hne (by rw [z]; rfl)) g fun x es' n' h' p g' k => ?_
  have hm : ∀ y ∈ es', y ∈ es := fun y hy => p.mem_iff.mp (List.mem_cons_of_mem _ hy)
  have hx := (h3 x (p.mem_iff.mp List.mem_cons_self)).1
  have hlen := p.length_eq
  rw [List.length_cons] at hlen
  refine ⟨x.v, _, I.write (x := l) (e := l) (o := .lst (es'.map (·.v))) (by rw [hH]; trivial) (.inl rfl) (fun b o ne g => k b o ne g) ⟨_, g'⟩ ⟨by rw [sizeLine_eq, List.length_map]; omega, es'.map (·.u), n', vals_es fun y hy => (h3 y (hm y hy)).1, g'⟩, hx, ?_⟩
  have := q (x.v, x.i, x.z) (es'.map fun x => (x.v, x.i, x.z)) (by have := p.map (fun x : PrE => (x.v, x.i, x.z)); simpa using this)
  rw [es_ps] at this
  exact this
theorem cr_hpush (hc : X.calm = true) (hu : X.A.units + 64 < cLine) : CallR X (.builtin "_heapq.heappush") (rHpush X.K) := by
  intro pins s σ H xs us Q I r ⟨l, ps, e0, e, hH, hps, he, hz, q⟩
  subst e
  obtain ⟨u, u2, rfl, ru, ru2⟩ := vals2 r
  obtain rfl : u = Value.ref l := ru
  obtain ⟨z, its, n, rv, hl, g⟩ := I.lstM hH
  obtain ⟨es, e1, e2, h3⟩ := pr_all I g rv hps
  have h4 := pr_at I g ru2 he
  subst e1 e2
  have hzl : es.length ≤ 900000 := by simpa using hz
  have hall : ∀ x ∈ es ++ [⟨e0.1, u2, e0.2.1, e0.2.2⟩], PrAt l s.heap x := fun x hx => by
    rcases List.mem_append.mp hx with hx | hx
    · exact h3 x hx
    · rw [List.mem_singleton.mp hx]; exact h4
  refine call_hpush (val := (·.u)) (lt := PrE.lt) (e := ⟨e0.1, u2, e0.2.1, e0.2.2⟩) (I.ok.hd hc) (pr_cmp (by show X.A.units + 1 + 1 < cLine; omega) hall) (by omega) g fun es' n' h' p g' k => ?_
  have hm : ∀ y ∈ es', PrAt l s.heap y := fun y hy => hall y (p.mem_iff.mp hy)
  have hlen := p.length_eq
  rw [List.length_append, List.length_singleton] at hlen
  refine ⟨.non, _, I.write (x := l) (e := l) (o := .lst (es'.map (·.v))) (by rw [hH]; trivial) (.inl rfl) (fun b o ne g => k b o ne g) ⟨_, g'⟩ ⟨by rw [sizeLine_eq, List.length_map]; omega, es'.map (·.u), n', vals_es fun y hy => (hm y hy).1, g'⟩, rfl, ?_⟩
  have := q (es'.map fun x => (x.v, x.i, x.z)) (by have := p.map (fun x : PrE => (x.v, x.i, x.z)); simpa using this)
  rw [es_ps] at this
  exact this
/-! data -/
def prD (p : Int × Str) : PyData := .tuple [.int p.1, .str p.2]
theorem pr_dp {K : PySem.W.Frag} {H : Hp} {μ : Mu} : ∀ {ks : List (Int × Str)} {vs : List V}, DpAll K0 (hid H μ) vs (ks.map prD) → ∃ ps : List (V × Int × Str), ps.map (·.1) = vs ∧ ps.map (·.2) = ks ∧ ∀ p ∈ ps, rPr K H p ∧ Dp K0 (hid H μ) p.1 (prD p.2)
  | [], _, .nil => ⟨[], rfl, rfl, fun p hp => nomatch hp⟩
  | k :: ks, v :: vs, .cons a r => by
    obtain ⟨ps, h1, h2, h3⟩ := pr_dp (K := K) r
    refine ⟨(v, k) :: ps, by rw [List.map_cons, h1], by rw [List.map_cons, h2], fun p hp => ?_⟩
    rcases List.mem_cons.mp hp with e | hp
    · subst e
      obtain ⟨q, xs, e, h4, h5⟩ := dp_tuple (K := K0) (v := v) (ds := [.int k.1, .str k.2]) a
      cases h5 with
      | cons g1 g2 => cases g1; cases g2 with
        | cons g3 g4 => cases g3; cases g4; exact ⟨⟨q, e, .inl (rd_mono (hid_same H μ) h4)⟩, a⟩
    · exact h3 p hp
theorem dp_pr {K : PySem.W.Frag} {H : Hp} {μ : Mu} : ∀ {ps : List (V × Int × Str)}, (∀ p ∈ ps, Dp K0 (hid H μ) p.1 (prD p.2)) → DpAll K0 (hid H μ) (ps.map (·.1)) ((ps.map (·.2)).map prD)
  | [], _ => .nil
  | p :: ps, h => .cons (h p List.mem_cons_self) (dp_pr (K := K) fun q hq => h q (List.mem_cons_of_mem _ hq))
def oHpop : DOs := fun as μ P => ∃ p ks, as = [.mut p] ∧ μ p = some (.lst ((ks.map prD).map AV.dat)) ∧ ks ≠ [] ∧ ks.length ≤ 900000 ∧ ∀ (k : Int × Str) (ks' : List (Int × Str)), (k :: ks').Perm ks → P (.dat (prD k)) (mset μ p (some (.lst ((ks'.map prD).map AV.dat))))
theorem so_hpop {K : PySem.W.Frag} : SOs K (rHpop K) oHpop := fun xs H Q as μ P hm rx ⟨p, ks, e, hp, hne, hz, q⟩ c => by
  subst e
  obtain ⟨w, rfl, rw'⟩ := relAs1 rx
  cases (show w = V.ref p from rw')
  obtain ⟨zs, g1, g2⟩ := hm.lst hp
  have hpc := hid_cell (H := H) hp
  obtain ⟨ps, e1, e2, h3⟩ := pr_dp (K := K) (relAs_dat.mpr g2)
  subst e1 e2
  refine ⟨p, ps, rfl, g1, fun x hx => (h3 x hx).1, fun z => hne (by rw [z]; rfl), by simpa using hz, fun k ps' pm => ?_⟩
  have hm' : ∀ x ∈ ps', Dp K0 (hid H μ) x.1 (prD x.2) := fun x hx => (h3 x (pm.mem_iff.mp (List.mem_cons_of_mem _ hx))).2
  have pm' : (k.2 :: ps'.map fun p : V × Int × Str => p.2).Perm (ps.map fun p : V × Int × Str => p.2) := by simpa using pm.map (fun p : V × Int × Str => p.2)
  refine c _ _ (.dat (prD k.2)) _ ?_ (hm.store hpc (relAs_dat.mp (dp_pr (K := K) hm'))) ?_ (q k.2 _ pm')
  · rw [hid_store hpc]; exact Same.refl _
  · rw [hid_store hpc]
    exact (h3 k (pm.mem_iff.mp List.mem_cons_self)).2
def oHpush : DOs := fun as μ P => ∃ p ks k, as = [.mut p, .dat (prD k)] ∧ μ p = some (.lst ((ks.map prD).map AV.dat)) ∧ ks.length ≤ 900000 ∧ ∀ ks' : List (Int × Str), ks'.Perm (ks ++ [k]) → P (.dat .none) (mset μ p (some (.lst ((ks'.map prD).map AV.dat))))
theorem so_hpush {K : PySem.W.Frag} : SOs K (rHpush K) oHpush := fun xs H Q as μ P hm rx ⟨p, ks, k, e, hp, hz, q⟩ c => by
  subst e
  obtain ⟨w, w2, rfl, rw', rw2⟩ := relAs2 rx
  cases (show w = V.ref p from rw')
  obtain ⟨zs, g1, g2⟩ := hm.lst hp
  have hpc := hid_cell (H := H) hp
  obtain ⟨ps, e1, e2, h3⟩ := pr_dp (K := K) (relAs_dat.mpr g2)
  obtain ⟨qs, e3, e4, h5⟩ := pr_dp (K := K) (H := H) (μ := μ) (ks := [k]) (vs := [w2]) (.cons rw2 .nil)
  obtain ⟨e0, rfl⟩ : ∃ e0, qs = [e0] := by
    cases qs with
    | nil => cases e3
    | cons a r => cases r with
      | nil => exact ⟨a, rfl⟩
      | cons b r => cases e3
  have e3 : e0.1 = w2 := by simpa using e3
  have e4 : e0.2 = k := by simpa using e4
  have h6 := h5 e0 List.mem_cons_self
  subst e1 e2 e3 e4
  refine ⟨p, ps, e0, rfl, g1, fun x hx => (h3 x hx).1, h6.1, by simpa using hz, fun ps' pm => ?_⟩
  have hm' : ∀ x ∈ ps', Dp K0 (hid H μ) x.1 (prD x.2) := fun x hx => by
    rcases List.mem_append.mp (pm.mem_iff.mp hx) with hx | hx
    · exact (h3 x hx).2
    · rw [List.mem_singleton.mp hx]; exact h6.2
  refine c _ _ (.dat .none) _ ?_ (hm.store hpc (relAs_dat.mp (dp_pr (K := K) hm'))) rN (q (ps'.map fun p : V × Int × Str => p.2) (by have := pm.map (fun p : V × Int × Str => p.2); simpa using this))
  rw [hid_store hpc]; exact Same.refl _
end
section
variable {X : Cx} {x : Str} {p pos : Pos} {e : Expr} {es : List Expr} {t : TA} {MA : DAx} {id : String} {r : List V → Hp → VK → Prop} {d : DOs}
/-- f(e, ..), f a module's name for a built-in function -/
theorem de_callI (hc : CallR X (.builtin id) r) (hd : SOs X.K r d) (hg : Gl X x) (hm : X.mg x = some (.builtin id)) (h : DA X (e :: es) t MA) (hdb : (x == ("__debug__" : Str)) = false := by decide)
    (he : starEach (e :: es) X.env = (false, eval e X.env) :: starEach es X.env := by rfl) (hpl : (backTo pos (starEach es X.env)).any (·.1) = false := by rfl) : DE X (.Call (.Name x p) (e :: es) [] pos) (tCB r t) (mCall d MA) := ⟨pe_callBfun hc hg hm h.pa hdb he hpl, se_args hd h.sa⟩
end
section
variable {X : Cx} {a : Expr} {ta : TE} {Ma : DEx}
/-- a list's, a tuple's truth -/
def mTru (Ma : DEx) : DTx := fun δ μ P => Ma δ μ fun a μ1 => (∃ ds, a = .dat (.list ds) ∧ P (!ds.isEmpty) μ1) ∨ (∃ ds, a = .dat (.tuple ds) ∧ P (!ds.isEmpty) μ1) ∨ ∃ p as, a = .mut p ∧ μ1 p = some (.lst as) ∧ P (!as.isEmpty) μ1
theorem dpAll_empty {K : PySem.W.Frag} {H : Hp} {vs : List V} {ds : List PyData} (h : DpAll K H vs ds) : vs.isEmpty = ds.isEmpty := by cases h <;> rfl
theorem relAs_empty {K : PySem.W.Frag} {H : Hp} {vs : List V} {as : List AV} (h : RelAs K H vs as) : vs.isEmpty = as.isEmpty := by cases h <;> rfl
theorem dt_tru (h : DE X a ta Ma) (he : ∀ whole, isTrue a X.env whole = (do let v ← whole; standAt a.pos; holding [v] (truthy v)) := by intro _; rfl) : DT X a (fun σ H Q => ta σ H fun x H' => ∃ k, TruV X.K x H' k ∧ Q k H') (mTru Ma) := ⟨pt_truth h.pe he, fun σ H Q δ μ P R hm m c =>
  h.se σ H _ δ μ _ R hm m fun x H1 av μ1 e1 hm1 r1 m1 => by
    rcases m1 with ⟨ds, ea, m1⟩ | ⟨ds, ea, m1⟩ | ⟨p, as, ea, hp, m1⟩
    · subst ea
      obtain ⟨p1, v1, rfl, h1, a1⟩ := dp_list r1
      exact ⟨_, .inl ⟨v1, .inl (rd_mono (hid_same H1 μ1) h1), rfl⟩, by rw [dpAll_empty a1]; exact c _ H1 μ1 e1 hm1 m1⟩
    · subst ea
      obtain ⟨p1, v1, rfl, h1, a1⟩ := dp_tuple r1
      exact ⟨_, .inr (.inl ⟨v1, .inl (rd_mono (hid_same H1 μ1) h1), rfl⟩), by rw [dpAll_empty a1]; exact c _ H1 μ1 e1 hm1 m1⟩
    · subst ea
      cases (show x = V.ref p from r1)
      obtain ⟨xs, h1, h2⟩ := hm1.lst hp
      exact ⟨_, .inl ⟨xs, .inl (.inl h1), rfl⟩, by rw [relAs_empty h2]; exact c _ H1 μ1 e1 hm1 m1⟩⟩
end
end DL

set_option maxHeartbeats 4000000
/-! [*a, b]; min(d.values()); continue -/
namespace DL
open PySem PySem.Spec PyProof.Rows L2 RZ
section
variable {X : Cx} {e o : Expr} {es : List Expr} {p pos apos mpos : Pos} {te td : TE} {t : TA} {Me Mo : DEx} {MA : DAx}
def mStar (Me : DEx) (MA : DAx) : DAx := fun δ μ P => Me δ μ fun a μ1 => ∃ ds, AsData μ1 a (.list ds) ∧ MA δ μ1 fun as μ2 => P (ds.map AV.dat ++ as) μ2
theorem da_star (he : DE X e te Me) (hr : DA X es t MA) (hs : starEach (.Starred e p :: es) X.env = (true, eval e X.env) :: starEach es X.env := by rfl) : DA X (.Starred e p :: es) (StX.tStar X.K te t) (mStar Me MA) := ⟨StX.pa_star he.pe hr.pa hs,
  fun σ H Q δ μ P R hm m c => he.se σ H _ δ μ _ R hm m fun x H1 av μ1 e1 hm1 r1 ⟨ds, ha, m1⟩ => by
    have go : ∀ {l : Addr} {vs : List V}, x = .ref l → SqL X.K H1 l vs → DpAll K0 (hid H1 μ1) vs ds → ∃ p xs, x = V.ref p ∧ (SqT X.K H1 p xs ∨ SqL X.K H1 p xs) ∧ t σ H1 fun ys H2 => Q (xs ++ ys) H2 := fun {l vs} e2 h1 h2 =>
      ⟨l, vs, e2, .inr h1, hr.sa σ H1 _ δ μ1 _ (R.mono e1) hm1 m1 fun ys H2 as μ2 e3 hm2 r2 m2 => c _ H2 _ μ2 (e1.trans e3) hm2 (paired_append (relAs_dat.mp (dpAll_mono e3 h2)) r2) m2⟩
    rcases ha with rfl | ⟨p, ds', rfl, hp, e2⟩
    · obtain ⟨p1, v1, e2, h1, a1⟩ := dp_list r1
      exact go e2 (.inl (rd_mono (hid_same H1 μ1) h1)) a1
    · cases e2
      obtain ⟨xs, h1, h2⟩ := hm1.lst hp
      exact go (show x = .ref p from r1) (.inl (.inl h1)) (relAs_dat.mpr h2)⟩
def mCont : DSx := fun D δ μ => D.ct δ μ
theorem ds_cont : DS X (.Continue pos) tCont mCont := ⟨ps_continue, fun σ H D δ μ DD R hm m k => k.ct σ H δ μ (Same.refl _) hm R m⟩
/-- the numbers of a dict -/
def kisA (kis : List (Key × Int)) : List (Key × AV) := kis.map fun q => (q.1, .dat (.int q.2))
def mMinVals (Mo : DEx) : DEx := fun δ μ P => Mo δ μ fun a μ1 => ∃ p kis, a = .mut p ∧ μ1 p = some (.dK (kisA kis)) ∧ kis ≠ [] ∧ ∀ m, m ∈ kis.map (·.2) → (∀ j ∈ kis.map (·.2), m ≤ j) → P (.dat (.int m)) μ1
theorem kis_pk {K : PySem.W.Frag} {H : Hp} : ∀ {kis : List (Key × Int)} {vs : List (Key × V)}, PK K H vs (kisA kis) → vs.map (·.2) = (kis.map (·.2)).map V.int
  | [], _, .nil => rfl
  | k :: kis, v :: vs, .cons a r => by
    rw [List.map_cons, List.map_cons, List.map_cons, kis_pk r]
    congr 1
    exact dp_int a.2
theorem de_minVals (hc : X.calm = true) (hg : Gl X "min") (hmg : X.mg "min" = none) (ho : DE X o td Mo) (hbase : attributeBase o "values" X.env (eval o X.env) = eval o X.env := by rfl) (hline : (apos.endLine == mpos.line) = true := by rfl)
    (hse : starEach [Expr.Call (.Attribute o "values" apos) [] [] mpos] X.env = [(false, eval (Expr.Call (.Attribute o "values" apos) [] [] mpos) X.env)] := by rfl) :
    DE X (.Call (.Name "min" p) [.Call (.Attribute o "values" apos) [] [] mpos] [] pos) (tMinVals td) (mMinVals Mo) := ⟨pe_minVals hc hg hmg ho.pe hbase hline hse,
  fun σ H Q δ μ P R hm m c => ho.se σ H _ δ μ _ R hm m fun x H1 av μ1 e1 hm1 r1 ⟨a, kis, ea, hp, hne, m1⟩ => by
    subst ea
    cases (show x = V.ref a from r1)
    obtain ⟨vs, g1, g2⟩ := hm1.dk hp
    exact ⟨a, vs, kis.map (·.2), rfl, g1, kis_pk g2, fun z => hne (List.map_eq_nil_iff.mp z), fun k h1 h2 => (c.from e1).here hm1 (rI _) (m1 k h1 h2)⟩⟩
/-- cells.pop() -/
def mPop0 (Mo : DEx) : DEx := fun δ μ P => Mo δ μ fun a μ1 => ∃ p as x, a = .mut p ∧ μ1 p = some (.lst (as ++ [x])) ∧ P x (mset μ1 p (some (.lst as)))
theorem paired_snoc {α β : Type} {F : α → β → Prop} {y : β} : ∀ {xs : List α} {ys : List β}, Paired F xs (ys ++ [y]) → ∃ xs' x, xs = xs' ++ [x] ∧ Paired F xs' ys ∧ F x y
  | _, [], .cons a .nil => ⟨[], _, rfl, .nil, a⟩
  | _, _ :: ys, .cons a t => by
    obtain ⟨xs', x, rfl, h1, h2⟩ := paired_snoc (ys := ys) t
    exact ⟨_ :: xs', x, rfl, .cons a h1, h2⟩
theorem de_pop0 (ho : DE X o te Mo) (hbase : attributeBase o "pop" X.env (eval o X.env) = eval o X.env := by rfl) (hline : (apos.endLine == mpos.line) = true := by rfl) :
    DE X (.Call (.Attribute o "pop" apos) [] [] mpos) (tBM0 X.K "list" rPop te) (mPop0 Mo) := ⟨pe_bm0 PySem.F.plainAttrs_list PySem.F.slot_list_pop PySem.F.type_list_pop mt_pop ho.pe hbase hline,
  fun σ H Q δ μ P R hm m c => ho.se σ H _ δ μ _ R hm m fun x H1 av μ1 e1 hm1 r1 ⟨p, as, z, ea, hp, m1⟩ => by
    subst ea
    cases (show x = V.ref p from r1)
    obtain ⟨ys, ey, ry⟩ := hm1.lst hp
    have hpc := hid_cell (H := H1) hp
    obtain ⟨xs', w, rfl, h1, h2⟩ := paired_snoc ry
    refine ⟨.inl ⟨rfl, _, .inl (.inl ey)⟩, p, _, w, rfl, rfl, ey, by simp, ?_⟩
    rw [List.dropLast_concat]
    refine c _ _ z _ ?_ (hm1.store hpc h1) (by rw [hid_store hpc]; exact h2) m1
    rw [hid_store hpc]; exact e1⟩
end
section
variable {X : Cx} {a : Expr} {ta : TE} {Ma : DEx} {pos pos' : Pos}
/-- is None, of a cell -/
def mTIsNM (Ma : DEx) : DTx := fun δ μ P => Ma δ μ fun x μ1 => ∃ p, x = .mut p ∧ P false μ1
theorem dt_isNM {j} (h : DE X a ta Ma) : DT X (.Compare a [.Is] [.Constant .none j pos'] pos) (tB (tIsN ta)) (mTIsNM Ma) := ⟨pt_cmp (pc_isN h.pe) (by rfl), fun σ H Q δ μ P R hm m c =>
  h.se σ H _ δ μ _ R hm m fun x H1 av μ1 e1 hm1 r1 ⟨p, ea, m1⟩ => by
    subst ea
    cases (show x = V.ref p from r1)
    exact ⟨_, rfl, c _ H1 μ1 e1 hm1 m1⟩⟩
end
section
variable {X : Cx} {K : PySem.W.Frag} {x : Str} {a : Expr} {es : List Expr} {p pos : Pos} {t : TA} {MA : DAx} {d : DOs}
def rTupOf (K : PySem.W.Frag) : List V → Hp → VK → Prop := fun xs H Q => ∃ p ys, xs = [V.ref p] ∧ ((SqL K H p ys ∧ ∀ l, H l = none → Q (.ref l) (upd H l (.tup ys))) ∨ (SqT K H p ys ∧ Q (.ref p) H))
theorem de_callTyC {T : String} {rr : PySem.W.Frag → List V → Hp → VK → Prop} (hK : X.K = K) (hc : CallR X (.type T) (rr X.K)) (hd : SOs K (rr K) d) (hg : Gl X x) (hm : X.mg x = none) (hv : bootBuiltins x = some (.type T)) (h : DA X (a :: es) t MA)
    (hn : x ≠ "__name__" := by decide) (hdb : (x == ("__debug__" : Str)) = false := by decide) (he : starEach (a :: es) X.env = (false, eval a X.env) :: starEach es X.env := by rfl) (hpl : (backTo pos (starEach es X.env)).any (·.1) = false := by rfl) :
    DE X (.Call (.Name x p) (a :: es) [] pos) (tCB (rr K) t) (mCall d MA) := by
  subst hK
  exact de_callTy hc hd hg hm hv h hn hdb he hpl
end
end DL

/-! is None, of what may be a cell or data -/
namespace DL
open PySem PySem.Spec PyProof.Rows L2 RZ
section
variable {X : Cx} {a : Expr} {ta : TE} {Ma : DEx} {pos pos' : Pos}
def mTIsNE (g : Bool → Bool) (Ma : DEx) : DTx := fun δ μ P => Ma δ μ fun x μ1 => (∃ d, x = .dat d ∧ P (g (isNon d)) μ1) ∨ ∃ p, x = .mut p ∧ P (g false) μ1
theorem dt_isNE {j} (h : DE X a ta Ma) : DT X (.Compare a [.Is] [.Constant .none j pos'] pos) (tB (tIsN ta)) (mTIsNE (fun b => b) Ma) := ⟨pt_cmp (pc_isN h.pe) (by rfl), fun σ H Q δ μ P R hm m c =>
  h.se σ H _ δ μ _ R hm m fun x H1 av μ1 e1 hm1 r1 m1 => by
    rcases m1 with ⟨d, ea, m1⟩ | ⟨p, ea, m1⟩
    · subst ea
      exact ⟨_, by rw [non_of r1], c _ H1 μ1 e1 hm1 m1⟩
    · subst ea
      cases (show x = V.ref p from r1)
      exact ⟨_, rfl, c _ H1 μ1 e1 hm1 m1⟩⟩
theorem dt_notNE {j} (h : DE X a ta Ma) : DT X (.Compare a [.IsNot] [.Constant .none j pos'] pos) (tB (tNotN ta)) (mTIsNE (fun b => !b) Ma) := ⟨pt_cmp (pc_notN h.pe) (by rfl), fun σ H Q δ μ P R hm m c =>
  h.se σ H _ δ μ _ R hm m fun x H1 av μ1 e1 hm1 r1 m1 => by
    rcases m1 with ⟨d, ea, m1⟩ | ⟨p, ea, m1⟩
    · subst ea
      exact ⟨_, by rw [non_of r1], c _ H1 μ1 e1 hm1 m1⟩
    · subst ea
      cases (show x = V.ref p from r1)
      exact ⟨_, rfl, c _ H1 μ1 e1 hm1 m1⟩⟩
end
end DL

/-! a list turned round: xs[::-1] -/
namespace DL
open PySem PySem.Spec PyProof.Rows L2 RZ
section
variable {X : Cx} {e st : Expr} {te ts : TE} {Me Ms : DEx} {pos p2 : Pos}
def tRev (K : PySem.W.Frag) (te ts : TE) : TE := fun σ H Q => te σ H fun x H1 => ts σ H1 fun i H2 => i = .int (-1) ∧ ∃ a xs, x = .ref a ∧ SqL K H2 a xs ∧ ∀ p, H2 p = none → Q (.ref p) (upd H2 p (.lst xs.reverse))
theorem pe_rev (he : PE X e te) (hs : PE X st ts) : PE X (.Subscript e (.Slice none none (some st) p2) pos) (tRev X.K te ts) := by
  refine ⟨fun pins s σ H Q I h => ?_⟩
  refine Subscript_ (thn (he.run pins s σ H _ I h) fun v s1 ⟨x, H1, I1, r1, q1⟩ => ?_)
  refine wpAny_Slice ?_
  rw [evalPart_none]
  refine wpAny_pure (wpAny_pure ?_)
  rw [evalPart_some]
  refine thn (hs.run pins s1 σ H1 _ I1 q1) fun vs s3 ⟨y, H3, I3, r3, ey, a, xs, ex, hx, q⟩ => ?_
  subst ey ex
  cases r1
  obtain ⟨t, rfl⟩ := r3
  have I4 : Inv X pins σ H3 { s3 with heap := s3.heap.push { cls := .type "slice", data := .fields #[.none, .none, .int (-1) t] } } := I3.kept (t' := s3.toks) fun b ob q => Heap.get?_push_of_some _ q
  obtain ⟨its, r, ht, hz⟩ := I4.list hx
  have hlen := r.length
  show wpAny (model X.prog X.w) X.A (subscriptTail e (.Slice none none (some st) p2) (.ref a) (.ref s3.heap.objs.size)) (EP X pins σ Q) X.xe { s3 with heap := s3.heap.push { cls := .type "slice", data := .fields #[.none, .none, .int (-1) t] } }
  refine tail_any (ops := [.ref a, .ref s3.heap.objs.size]) ht.isList.typeIs slot_list_getitem.lookup ?_ (by with_unfolding_all rfl)
  refine wpAny_getItem_list_slice ht.isList (Heap.IsSliceOf.new ..) .none .none (.int (-1) t) (by simp) ?_ (by rw [List.size_toArray] <;> omega)
  rw [PySem.W.krv_pick]
  refine ⟨.ref _, _, I4.laid (t' := s3.toks) (o := .lst xs.reverse) (fun b ob q => Heap.get?_push_of_some _ q) (Nat.le_refl _) ?_, rfl, q _ (I4.hok.fresh (Nat.le_refl _))⟩
  exact ⟨by rw [List.length_reverse]; exact hz, _, 0, r.reverse, Heap.get?_push_size _ rfl⟩
theorem dpAll_rev {H : Hp} : ∀ {xs : List V} {ds : List PyData}, DpAll K0 H xs ds → DpAll K0 H xs.reverse ds.reverse
  | [], [], _ => .nil
  | x :: xs, d :: ds, h => by
    rw [List.reverse_cons, List.reverse_cons]
    cases h with
    | cons h1 h2 => exact dpAll_append (dpAll_rev h2) (.cons h1 .nil)
def mRev (Me Ms : DEx) : DEx := fun δ μ P => Me δ μ fun a μ1 => Ms δ μ1 fun i μ2 => i = .dat (.int (-1)) ∧ ∃ ds, a = .dat (.list ds) ∧ P (.dat (.list ds.reverse)) μ2
theorem de_rev (he : DE X e te Me) (hs : DE X st ts Ms) : DE X (.Subscript e (.Slice none none (some st) p2) pos) (tRev X.K te ts) (mRev Me Ms) :=
  ⟨pe_rev he.pe hs.pe, fun σ H Q δ μ P R hm m c => he.se σ H _ δ μ _ R hm m fun x H1 av μ1 e1 hm1 r1 m1 => hs.se σ H1 _ δ μ1 _ (R.mono e1) hm1 m1 fun y H2 bv μ2 e2 hm2 r2 ⟨ey, ds, ea, p⟩ => by
    subst ey ea
    have ry := dp_int r2
    obtain ⟨p1, v1, rfl, h1, a1⟩ := dp_list (relA_mono e2 r1)
    exact ⟨ry, p1, v1, rfl, .inl (rd_mono (hid_same H2 μ2) h1), fun q n => (c.from (e1.trans e2)).new hm2 n (rel_lst hm2 n (dpAll_rev a1)) p⟩⟩
end
end DL

namespace K1
open PySem PySem.Spec PyProof.Rows L2 RZ DL
def topS (i : Nat) : Stmt := PySem.Challenge.pw_hoarseheath_k23_winds_known_by_hand.main.body.getD i (.Pass ⟨0, 0, 0, 0⟩)
abbrev s_lasts_by_caller : Stmt := topS 2
abbrev N_lasts_by_caller : List Str := ["plan", "picture"]
theorem sc_lasts_by_caller : FnScope N_lasts_by_caller ["plan", "picture"] (defScope s_lasts_by_caller) := ⟨rfl, rfl, rfl, by decide +kernel, rfl, by decide +kernel, by decide +kernel⟩
abbrev s_is_on_its_way : Stmt := topS 3
abbrev N_is_on_its_way : List Str := ["picture", "last", "beats"]
theorem sc_is_on_its_way : FnScope N_is_on_its_way ["picture", "last", "beats"] (defScope s_is_on_its_way) := ⟨rfl, rfl, rfl, by decide +kernel, rfl, by decide +kernel, by decide +kernel⟩
abbrev s_who_owes : Stmt := topS 4
abbrev N_who_owes : List Str := ["plan", "picture", "way", "_", "one", "other", "beats", "lasts", "here", "there"]
theorem sc_who_owes : FnScope N_who_owes ["plan", "picture", "way"] (defScope s_who_owes) := ⟨rfl, rfl, rfl, by decide +kernel, rfl, by decide +kernel, by decide +kernel⟩
abbrev s_check_caller : Stmt := topS 9
abbrev N_check_caller : List Str := ["plan", "caller"]
theorem sc_check_caller : FnScope N_check_caller ["plan", "caller"] (defScope s_check_caller) := ⟨rfl, rfl, rfl, by decide +kernel, rfl, by decide +kernel, by decide +kernel⟩
abbrev s_find_way : Stmt := topS 10
abbrev N_find_way : List Str := ["plan", "name", "way"]
theorem sc_find_way : FnScope N_find_way ["plan", "name"] (defScope s_find_way) := ⟨rfl, rfl, rfl, by decide +kernel, rfl, by decide +kernel, by decide +kernel⟩
abbrev s_ways_at : Stmt := topS 11
abbrev N_ways_at : List Str := ["plan", "caller", "name", "there", "_"]
theorem sc_ways_at : FnScope N_ways_at ["plan", "caller"] (defScope s_ways_at) := ⟨rfl, rfl, rfl, by decide +kernel, rfl, by decide +kernel, by decide +kernel⟩
abbrev s_ends_at : Stmt := topS 12
abbrev N_ends_at : List Str := ["plan", "caller", "name", "one", "other", "beats"]
theorem sc_ends_at : FnScope N_ends_at ["plan", "caller"] (defScope s_ends_at) := ⟨rfl, rfl, rfl, by decide +kernel, rfl, by decide +kernel, by decide +kernel⟩
abbrev s_beats_from : Stmt := topS 13
abbrev N_beats_from : List Str := ["plan", "caller", "least", "ahead", "beats", "here", "_", "there", "more"]
theorem sc_beats_from : FnScope N_beats_from ["plan", "caller"] (defScope s_beats_from) := ⟨rfl, rfl, rfl, by decide +kernel, rfl, by decide +kernel, by decide +kernel⟩
abbrev s_part_of : Stmt := topS 14
abbrev N_part_of : List Str := ["plan", "caller"]
theorem sc_part_of : FnScope N_part_of ["plan", "caller"] (defScope s_part_of) := ⟨rfl, rfl, rfl, by decide +kernel, rfl, by decide +kernel, by decide +kernel⟩
abbrev s_lean : Stmt := topS 16
abbrev N_lean : List Str := ["plan", "picture", "way", "found", "owing"]
theorem sc_lean : FnScope N_lean ["plan", "picture", "way"] (defScope s_lean) := ⟨rfl, rfl, rfl, by decide +kernel, rfl, by decide +kernel, by decide +kernel⟩
abbrev s_lean_from : Stmt := topS 17
abbrev N_lean_from : List Str := ["plan", "picture", "caller", "way", "straight"]
theorem sc_lean_from : FnScope N_lean_from ["plan", "picture", "caller", "way"] (defScope s_lean_from) := ⟨rfl, rfl, rfl, by decide +kernel, rfl, by decide +kernel, by decide +kernel⟩
abbrev s_wind : Stmt := topS 18
abbrev N_wind : List Str := ["plan", "picture", "ring", "caller", "way"]
theorem sc_wind : FnScope N_wind ["plan", "picture", "ring"] (defScope s_wind) := ⟨rfl, rfl, rfl, by decide +kernel, rfl, by decide +kernel, by decide +kernel⟩
abbrev s_rings_of : Stmt := topS 19
abbrev N_rings_of : List Str := ["plan", "caller", "found", "first"]
theorem sc_rings_of : FnScope N_rings_of ["plan", "caller"] (defScope s_rings_of) := ⟨rfl, rfl, rfl, by decide +kernel, rfl, by decide +kernel, by decide +kernel⟩
abbrev s_rings_from : Stmt := topS 20
abbrev N_rings_from : List Str := ["plan", "first", "found", "walks", "gone", "here", "way", "there", "more", "_", "used", "passed"]
theorem sc_rings_from : FnScope N_rings_from ["plan", "first"] (defScope s_rings_from) := ⟨rfl, rfl, rfl, by decide +kernel, rfl, by decide +kernel, by decide +kernel⟩
abbrev s_heights : Stmt := topS 22
abbrev N_heights : List Str := ["plan", "picture", "caller", "numbers", "least", "here"]
theorem sc_heights : FnScope N_heights ["plan", "picture", "caller"] (defScope s_heights) := ⟨rfl, rfl, rfl, by decide +kernel, rfl, by decide +kernel, by decide +kernel⟩
abbrev s_numbers_from : Stmt := topS 23
abbrev N_numbers_from : List Str := ["plan", "picture", "caller", "numbers", "ahead", "here", "way", "there", "number"]
theorem sc_numbers_from : FnScope N_numbers_from ["plan", "picture", "caller"] (defScope s_numbers_from) := ⟨rfl, rfl, rfl, by decide +kernel, rfl, by decide +kernel, by decide +kernel⟩
abbrev s_winding : Stmt := topS 24
abbrev N_winding : List Str := ["plan", "picture", "caller", "ring"]
theorem sc_winding : FnScope N_winding ["plan", "picture", "caller"] (defScope s_winding) := ⟨rfl, rfl, rfl, by decide +kernel, rfl, by decide +kernel, by decide +kernel⟩
abbrev s_law_tape : Stmt := topS 26
abbrev N_law_tape : List Str := ["script", "k", "cell"]
theorem sc_law_tape : FnScope N_law_tape ["script", "k"] (defScope s_law_tape) := ⟨rfl, rfl, rfl, by decide +kernel, rfl, by decide +kernel, by decide +kernel⟩
abbrev s_law_draw : Stmt := topS 27
abbrev N_law_draw : List Str := ["tape", "many", "found", "once", "twice", "wide"]
theorem sc_law_draw : FnScope N_law_draw ["tape", "many"] (defScope s_law_draw) := ⟨rfl, rfl, rfl, by decide +kernel, rfl, by decide +kernel, by decide +kernel⟩
abbrev s_law_folded : Stmt := topS 28
abbrev N_law_folded : List Str := ["script", "many", "cells", "k", "cell"]
theorem sc_law_folded : FnScope N_law_folded ["script", "many"] (defScope s_law_folded) := ⟨rfl, rfl, rfl, by decide +kernel, rfl, by decide +kernel, by decide +kernel⟩
abbrev s_law_names : Stmt := topS 29
abbrev N_law_names : List Str := ["tape", "many", "letters", "shift", "stem", "at", "step", "found", "head", "tail", "k", "way", "sign"]
theorem sc_law_names : FnScope N_law_names ["tape", "many"] (defScope s_law_names) := ⟨rfl, rfl, rfl, by decide +kernel, rfl, by decide +kernel, by decide +kernel⟩
abbrev s_law_same : Stmt := topS 30
abbrev N_law_same : List Str := ["found", "due", "one", "other"]
theorem sc_law_same : FnScope N_law_same ["found", "due"] (defScope s_law_same) := ⟨rfl, rfl, rfl, by decide +kernel, rfl, by decide +kernel, by decide +kernel⟩
abbrev s_law_told_right : Stmt := topS 31
abbrev N_law_told_right : List Str := ["plan", "picture", "ring", "due", "turned", "found", "caller", "k"]
theorem sc_law_told_right : FnScope N_law_told_right ["plan", "picture", "ring", "due"] (defScope s_law_told_right) := ⟨rfl, rfl, rfl, by decide +kernel, rfl, by decide +kernel, by decide +kernel⟩
abbrev s_law_kindled_right : Stmt := topS 32
abbrev N_law_kindled_right : List Str := ["tape", "names", "size", "way", "beats", "around", "rest", "ring", "ways", "plan", "lasts", "now", "k", "comes", "picture", "name"]
theorem sc_law_kindled_right : FnScope N_law_kindled_right ["tape"] (defScope s_law_kindled_right) := ⟨rfl, rfl, rfl, by decide +kernel, rfl, by decide +kernel, by decide +kernel⟩
abbrev s_law_waves_right : Stmt := topS 33
abbrev N_law_waves_right : List Str := ["tape", "names", "waves", "beats", "far", "size", "first", "ring", "ways", "plan", "lasts", "picture", "k", "due", "name"]
theorem sc_law_waves_right : FnScope N_law_waves_right ["tape"] (defScope s_law_waves_right) := ⟨rfl, rfl, rfl, by decide +kernel, rfl, by decide +kernel, by decide +kernel⟩
abbrev s_law : Stmt := topS 34
abbrev N_law : List Str := ["script", "cells", "k", "tape", "turn"]
theorem sc_law : FnScope N_law ["script"] (defScope s_law) := ⟨rfl, rfl, rfl, by decide +kernel, rfl, by decide +kernel, by decide +kernel⟩
theorem mulw {i j : Int} (hi : i.natAbs < 2 ^ 64) (hj : j.natAbs < 2 ^ 100) : CMul i j := .inl ⟨by omega, by omega⟩
theorem divw {i j : Int} (h : 0 < j) (hj : j.natAbs < 2 ^ 100) : CDivW i j := wide_div h hj (by decide) (by decide)
/-- what the top has written, as far as the defs ask -/
structure Txt (K : PySem.W.Frag) (mg : Str → Option Value) : Prop where
  n_isinstance : mg "isinstance" = none
  n_len : mg "len" = none
  n_all : mg "all" = none
  n_zip : mg "zip" = none
  n_range : mg "range" = none
  n_enumerate : mg "enumerate" = none
  n_sorted : mg "sorted" = none
  n_abs : mg "abs" = none
  n_max : mg "max" = none
  n_min : mg "min" = none
  n_repr : mg "repr" = none
  n_int : mg "int" = none
  n_str : mg "str" = none
  n_bool : mg "bool" = none
  n_list : mg "list" = none
  n_tuple : mg "tuple" = none
  n_dict : mg "dict" = none
  n_set : mg "set" = none
  n_any : mg "any" = none
  n_sum : mg "sum" = none
  c_heappop : mg "heappop" = some (.builtin "_heapq.heappop")
  c_heappush : mg "heappush" = some (.builtin "_heapq.heappush")
end K1


namespace K1
open PySem PySem.Spec PyProof.Rows L2 RZ DL
local macro_rules | `(tactic| walk_at "dl") => `(tactic| simp [and_assoc, mRet, mAnd, mOr, mCall, mCons, mVar, mCls, mNil, mC, oIsi, oIsi2, mNot, startD, mSeq, mIfS, mTOr, mTAnd, mTNot, mTest, mChain, mNext, oA1, oA2, oIB, oII, oII0, mOp, mUn, mAsg, mgName, mgTup, mgCons_c, mgNil_n, zipAs_l, zipAs_t, oSl_l, oSl_t, oSl_s, oSl_r, mPart, mSl, mIf, wipeD, oSign, oSS, oLen, LenD_s, LenD_l, LenD_t, LenD_m, miZ, miS, miT, miL, miE, miR, oEq, oNe, eqD_i, eqD_b, eqD_s, oInT, oIx, ixD_l, ixD_t, ixD_s, ixD_m, ix0, ix1, ix2, ix3, oAbs, oInt, oMax, oMin, mPar, mPar3, mTup, mLst, mLstM, asD, mExpr, itemsD_l, itemsD_t, oNeg, mgSub, mset_same, isStr, isTup, isLst, isBool, DL.isInt])
section
variable {P : Program} {w : World} {K : PySem.W.Frag} {mg : Str → Option Value} {base : Heap}
/-! ### the tape -/
/-- at t stands a tape from which so many at most have been drawn -/
def TapeAt (t : Addr) (n : Int) (μ : Mu) : Prop := ∃ a b c : Int, μ t = some (.lst [.dat (.int a), .dat (.int b), .dat (.int c)]) ∧ 0 ≤ a ∧ 0 ≤ b ∧ b < 2 ^ 62 ∧ 0 ≤ c ∧ c ≤ n
/-- all but the cell t is as it was -/
def Fr (t : Addr) (μ μ' : Mu) : Prop := ∀ b, b ≠ t → μ' b = μ b
theorem Fr.refl (t : Addr) (μ : Mu) : Fr t μ μ := fun _ _ => rfl
theorem Fr.trans {t : Addr} {μ μ1 μ2 : Mu} (h : Fr t μ μ1) (h2 : Fr t μ1 μ2) : Fr t μ μ2 := fun b hb => (h2 b hb).trans (h b hb)
theorem fr_set (t : Addr) (μ : Mu) (o : Option MO) : Fr t μ (mset μ t o) := fun b hb => mset_ne hb
theorem TapeAt.le {t : Addr} {n m : Int} {μ : Mu} (h : TapeAt t n μ) (e : n ≤ m) : TapeAt t m μ := by
  obtain ⟨a, b, c, h1, h2, h3, h4, h5, h6⟩ := h
  exact ⟨a, b, c, h1, h2, h3, h4, h5, by omega⟩
def d_law_draw : DOs := fun as μ Q => ∃ t m n, as = [.mut t, .dat (.int m)] ∧ TapeAt t n μ ∧ n ≤ 1000000 ∧ 1 ≤ m ∧ m ≤ 1000000 ∧ ∀ r μ', 0 ≤ r → r < m → TapeAt t (n + 1) μ' → Fr t μ μ' → Q (.dat (.int r)) μ'
theorem ok_law_draw (T : Txt K mg) {f : Addr} {fd : FuncData} (D : DefAt K mg "_law_draw" s_law_draw ["tape", "many"] f fd) : Prm P w K mg base 1 "_law_draw" 2 d_law_draw := by
  refine prm_of D sc_law_draw rfl (fun as μ Q ⟨t, m, n, e, _⟩ => by rw [e]; rfl) fun cdv A out s H hr hg => ⟨_, _,
(db_cons (ds_if (dt_cmp op_gt so_IB (de_ix (de_var (pv 0)) de_int (fun _ _ => rfl)) de_int) (db_cons (ds_setE (i := 2) sc_law_draw.nd rfl (by first | exact Or.inl rfl | exact Or.inr rfl) (de_op op_mod so_II (de_ix (de_var (pv 0)) de_int (fun _ _ => rfl)) (de_var (pv 1))))
    (db_cons (ds_asg (vs := []) (de_op op_fdivW so_II (de_ix (de_var (pv 0)) de_int (fun _ _ => rfl)) (de_var (pv 1))) (dg_subE (de_var (pv 0)) de_int))
    (db_one (ds_ret (de_var (pv 2)))))) db_nil)
    (db_cons (ds_asg (vs := []) (de_op op_add so_II0 (de_ix (de_var (pv 0)) de_int (fun _ _ => rfl)) de_int) (dg_subE (de_var (pv 0)) de_int))
    (db_cons (ds_setE (i := 3) sc_law_draw.nd rfl (by first | exact Or.inl rfl | exact Or.inr rfl) (de_op op_mod so_II (de_op op_pow so_II (de_op op_add so_II0 (de_ix (de_var (pv 0)) de_int (fun _ _ => rfl)) (de_op op_mul so_II de_int (de_ix (de_var (pv 0)) de_int (fun _ _ => rfl)))) de_int) de_int))
    (db_cons (ds_setE (i := 4) sc_law_draw.nd rfl (by first | exact Or.inl rfl | exact Or.inr rfl) (de_op op_mod so_II (de_op op_mul so_II (de_op op_add so_II0 (de_var (pv 3)) (de_ix (de_var (pv 0)) de_int (fun _ _ => rfl))) (de_op op_add so_II0 (de_op op_add so_II0 (de_op op_mod so_II (de_var (pv 3)) de_int) de_int) (de_ix (de_var (pv 0)) de_int (fun _ _ => rfl)))) de_int))
    (db_cons (ds_setE (i := 5) sc_law_draw.nd rfl (by first | exact Or.inl rfl | exact Or.inr rfl) (de_op op_mod so_II (de_op op_add so_II0 (de_op op_add so_II0 (de_op op_fdivW so_II (de_ix (de_var (pv 0)) de_int (fun _ _ => rfl)) de_int) (de_op op_mul so_II (de_var (pv 4)) de_int)) (de_ix (de_var (pv 0)) de_int (fun _ _ => rfl))) de_int))
    (db_one (ds_ret (de_op op_mod so_II (de_op op_fdivW so_II (de_op op_mod so_II (de_op op_add so_II0 (de_op op_add so_II0 (de_op op_mul so_II (de_var (pv 4)) de_int) (de_op op_mul so_II (de_var (pv 5)) de_int)) (de_var (pv 3))) de_int) de_int) (de_var (pv 1))))))))))
    , fun as μ Q ⟨t, m, n, e, ⟨a, b, c, ht, ha, hb, hb2, hc, hc2⟩, hn, hm, hm2, q⟩ => ?_⟩
  subst e
  walk_at "dl"
  simp [ht, ix0, ix1, ix2, show ixN 3 0 = some 0 from rfl, show ixN 3 2 = some 2 from rfl]
  by_cases h0 : 0 < a
  · rw [if_pos h0]
    refine ⟨by omega, divw (by omega) (by omega), q _ _ (Int.emod_nonneg _ (by omega)) (Int.emod_lt_of_pos _ (by omega)) ⟨_, b, c, mset_same, Int.ediv_nonneg ha (by omega), hb, hb2, hc, by omega⟩ (fr_set _ _ _)⟩
  · rw [if_neg h0]
    have h1 := Int.emod_nonneg ((b + 39373 * (c + 1)) ^ 5) (b := 2147483647) (by decide)
    have h2 := Int.emod_lt_of_pos ((b + 39373 * (c + 1)) ^ 5) (b := 2147483647) (by decide)
    refine ⟨mulw (by decide) (by omega), ⟨by decide, by decide, by omega⟩, ?_⟩
    generalize (b + 39373 * (c + 1)) ^ 5 % 2147483647 = o at h1 h2 ⊢
    have h3 := Int.emod_nonneg o (b := 40009) (by decide)
    have h4 := Int.emod_lt_of_pos o (b := 40009) (by decide)
    generalize o % 40009 = o2 at h3 h4 ⊢
    refine ⟨mulw (by omega) (by omega), divw (by decide) (by decide), ?_⟩
    have h5 := Int.emod_nonneg ((o + (c + 1)) * (o2 + 7 + (c + 1))) (b := 2147483629) (by decide)
    have h6 := Int.emod_lt_of_pos ((o + (c + 1)) * (o2 + 7 + (c + 1))) (b := 2147483629) (by decide)
    generalize (o + (c + 1)) * (o2 + 7 + (c + 1)) % 2147483629 = tw at h5 h6 ⊢
    refine ⟨mulw (by omega) (by decide), mulw (by omega) (by decide), ?_⟩
    have h7 := Int.emod_nonneg (b / 2147483647 + tw * 40009 + (c + 1)) (b := 2305843009213693951) (by decide)
    have h8 := Int.emod_lt_of_pos (b / 2147483647 + tw * 40009 + (c + 1)) (b := 2305843009213693951) (by decide)
    generalize (b / 2147483647 + tw * 40009 + (c + 1)) % 2305843009213693951 = wd at h7 h8 ⊢
    exact ⟨mulw (by omega) (by decide), divw (by decide) (by decide), by omega, q _ _ (Int.emod_nonneg _ (by omega)) (Int.emod_lt_of_pos _ (by omega)) ⟨a, b, c + 1, mset_same, ha, hb, hb2, by omega, by omega⟩ (fr_set _ _ _)⟩
/-- the cell and its place make a tape -/
def intD : PyData → Int
  | .int i => i
  | _ => 0
def d_law_tape : DOs := fun as μ Q => ∃ (ns : List Int) (k : Nat), as = [.dat (.list (ns.map PyData.int)), .dat (.int (k : Nat))] ∧ k ≤ 1000 ∧ ns.length ≤ 1000 ∧ ∀ t μ', μ t = none → TapeAt t 0 μ' → Fr t μ μ' → Q (.mut t) μ'
theorem ok_law_tape (T : Txt K mg) {f : Addr} {fd : FuncData} (D : DefAt K mg "_law_tape" s_law_tape ["script", "k"] f fd) : Prm P w K mg base 1 "_law_tape" 2 d_law_tape := by
  refine prm_of D sc_law_tape rfl (fun as μ Q ⟨ns, k, e, _⟩ => by rw [e]; rfl) fun cdv A out s H hr hg => ⟨_, _,
(db_cons (ds_setE (i := 2) sc_law_tape.nd rfl (by first | exact Or.inl rfl | exact Or.inr rfl) (de_if (dt_cmp op_lt so_IB (de_var (pv 1)) (de_callB call_len (so_A1 so_len) (by rfl) T.n_len (by decide +kernel) (da_cons (de_var (pv 0)) da_nil))) (de_ix (de_var (pv 0)) (de_var (pv 1)) (fun _ _ => rfl)) de_int))
    (db_one (ds_ret (dm_lst (da_cons (de_op op_mul so_II (de_callB call_abs (so_A1 so_abs) (by rfl) T.n_abs (by decide +kernel) (da_cons (de_var (pv 2)) da_nil)) (de_callTy call_int1 (so_A1 so_int) (by rfl) T.n_int (by decide +kernel) (da_cons (de_cmp op_ge so_IB (de_callB call_abs (so_A1 so_abs) (by rfl) T.n_abs (by decide +kernel) (da_cons (de_var (pv 2)) da_nil)) (de_op op_pow so_II de_int de_int)) da_nil))) (da_cons (de_op op_add so_II0 (de_op op_add so_II0 (de_op op_mod so_II (de_var (pv 2)) de_int) (de_op op_mul so_II de_int (de_var (pv 1)))) de_int) (da_cons de_int da_nil)))))))
    , fun as μ Q ⟨ns, k, e, hk, hl, q⟩ => ?_⟩
  subst e
  walk_at "dl"
  have hs3 : 3 ≤ sizeLine := by decide
  have fin : ∀ (p : Addr) (x i : Int), μ p = none → 0 ≤ x → Q (.mut p) (mset μ p (some (.lst [.dat (.int x), .dat (.int (i % 2305843009213693951 + 39373 * (k : Nat) + 17)), .dat (.int 0)]))) := fun p x i hp hx => by
    have h1 := Int.emod_nonneg i (b := 2305843009213693951) (by decide)
    have h2 := Int.emod_lt_of_pos i (b := 2305843009213693951) (by decide)
    exact q p _ hp ⟨_, _, _, mset_same, hx, by omega, by omega, by omega, by omega⟩ (fr_set _ _ _)
  have hp10 : CPow 10 18 := ⟨by decide, by decide, by decide⟩
  by_cases h : k < ns.length
  · rw [if_pos h]
    have hx : atI (ns.map PyData.int) (k : Nat) = some (.int ns[k]) := atI_nat (by rw [List.getElem?_map, List.getElem?_eq_getElem h]; rfl)
    refine ⟨_, ⟨_, rfl, hx⟩, _, rfl, _, rfl, hp10, ?_⟩
    by_cases hc : 1000000000000000000 ≤ (if ns[k] < 0 then -ns[k] else ns[k])
    · refine .inr ⟨hc, .inr (by decide), _, rfl, mulw (by decide) (by omega), hs3, fun p hp => fin p _ _ hp (by split <;> omega)⟩
    · refine .inl ⟨by omega, .inr (by decide), _, rfl, mulw (by decide) (by omega), hs3, fun p hp => fin p _ _ hp (by decide)⟩
  · rw [if_neg h]
    refine ⟨hp10, .inr (by decide), mulw (by decide) (by omega), hs3, fun p hp => ?_⟩
    have := fin p 0 0 hp (by decide)
    simpa using this
/-! the script folded -/
def d_law_folded : DOs := fun as μ Q => ∃ (ns : List Int) (m : Nat), as = [.raw ns, .dat (.int m)] ∧ 1 ≤ m ∧ m ≤ 8 ∧ ns.length ≤ 63 ∧ ∀ cs : List Int, cs.length ≤ m → Q (.dat (.list (cs.map PyData.int))) μ
theorem enum_at {ds : List PyData} {i : Nat} {d : PyData} (h : (enumD ds)[i]? = some d) : ∃ x, ds[i]? = some x ∧ d = .tuple [.int (i : Nat), x] := by
  unfold enumD at h
  rw [List.getElem?_zipWith] at h
  cases e : ds[i]? with
  | none =>
    rw [e] at h
    cases hr : (List.range ds.length)[i]? <;> rw [hr] at h <;> cases h
  | some x =>
    have hi : i < ds.length := (List.getElem?_eq_some_iff.mp e).1
    rw [e, List.getElem?_range hi] at h
    cases h
    exact ⟨x, rfl, rfl⟩
theorem cut4_len {α : Type} (xs : List α) (m : Nat) : (cutL xs none (some (m : Int))).length = min m xs.length := by
  unfold cutL
  rw [HT.sIx_none, show HT.sIx xs.length xs.length (some (m : Int)) = min m xs.length from HT.sIx_nat xs.length _ m]
  simp
theorem cut4_some {α : Type} {xs : List α} {hi : Option Int} {i m : Nat} {x : α} (h : (cutL xs (some (m : Int)) hi)[i]? = some x) : m < xs.length := by
  unfold cutL at h
  rw [show HT.sIx xs.length 0 (some (m : Int)) = min m xs.length from HT.sIx_nat xs.length 0 m] at h
  have h1 := (List.getElem?_eq_some_iff.mp h).1
  rw [List.length_take, List.length_drop] at h1
  omega
abbrev cellsI (cs : List Int) : Option MO := some (.lst (cs.map fun c => AV.dat (.int c)))
theorem ok_law_folded (T : Txt K mg) {f : Addr} {fd : FuncData} (D : DefAt K mg "_law_folded" s_law_folded ["script", "many"] f fd) : Prm P w K mg base 1 "_law_folded" 2 d_law_folded := by
  refine prm_of D sc_law_folded rfl (fun as μ Q ⟨ns, m, e, _⟩ => by rw [e]; rfl) fun cdv A out s H hr hg => ⟨_, _,
(db_cons (ds_setE (i := 2) sc_law_folded.nd rfl (by first | exact Or.inl rfl | exact Or.inr rfl) (de_callTy call_list_of (so_A1 so_listM) (by rfl) T.n_list (by decide +kernel) (da_cons (de_slice (de_var (pv 0)) dp_none (dp_some (de_var (pv 1)))) da_nil)))
    (db_cons (ds_for (vs := [3, 4]) PassesOwn.never rfl (di_enumE (by rfl) T.n_enumerate (da_cons (de_slice (de_var (pv 0)) (dp_some (de_var (pv 1))) (dp_some de_int)) da_nil)) (dg_tup (K := K) (n := 2) rfl rfl (dgs_cons (dg_name (pg_name (i := 3) sc_law_folded.nd rfl (by first | exact Or.inl rfl | exact Or.inr rfl)) (by decide)) (dgs_cons (dg_name (pg_name (i := 4) sc_law_folded.nd rfl (by first | exact Or.inl rfl | exact Or.inr rfl)) (by decide)) dgs_nil))) (db_one (ds_asg (vs := []) (de_op op_add so_II0 (de_ix (de_var (pv 2)) (de_op op_mod so_II (de_var (pv 3)) (de_var (pv 1))) (fun _ _ => rfl)) (de_op op_mul so_II (de_var (pv 4)) (de_op op_add so_II0 (de_var (pv 3)) de_int))) (dg_subE (de_var (pv 2)) (de_op op_mod so_II (de_var (pv 3)) (de_var (pv 1)))))))
    (db_one (ds_ret (de_frz (de_var (pv 2)))))))
    , fun as μ Q ⟨ns, m, e, m1, m8, hl, q⟩ => ?_⟩
  subst e
  walk_at "dl"
  refine ⟨_, _, rfl, rfl, fun p hp => ?_⟩
  refine for_by (enumD ((cutL ns (some (m : Int)) (some 63)).map PyData.int)) (fun R r => by walk_at "dl"; exact r) (fun i δ' μ' => ∃ cs y3 y4, δ' = [some (.raw ns), some (.dat (.int m)), some (.mut p), y3, y4] ∧ cs.length = min m ns.length ∧ μ' = mset μ p (cellsI cs)) ⟨cutL ns none (some (m : Int)), none, none, rfl, cut4_len ns m, ?_⟩ (fun i d δ' μ' hd ⟨cs, y3, y4, e1, e2, e3⟩ => ?_) (fun δ' μ' ⟨cs, y3, y4, e1, e2, e3⟩ => ?_)
  · rfl
  · subst e1 e3
    obtain ⟨x, hx, rfl⟩ := enum_at hd
    rw [List.getElem?_map] at hx
    cases e : (cutL ns (some (m : Int)) (some 63))[i]? with
    | none => rw [e] at hx; cases hx
    | some z =>
    rw [e] at hx
    cases hx
    have h4 := cut4_some e
    have hl4 : cs.length = m := by omega
    have hz : (cutL ns (some (m : Int)) (some 63)).length ≤ 63 := by
      unfold cutL
      rw [List.length_take, List.length_drop]
      omega
    have hi : i < 63 := Nat.lt_of_lt_of_le (List.getElem?_eq_some_iff.mp e).1 hz
    walk_at "dl"
    have hm0 := Int.emod_nonneg (i : Int) (b := (m : Int)) (by omega)
    have hm1 := Int.emod_lt_of_pos (i : Int) (b := (m : Int)) (by omega)
    obtain ⟨j, hj⟩ : ∃ j : Nat, (i : Int) % m = (j : Int) := ⟨((i : Int) % m).toNat, by omega⟩
    have hj4 : j < cs.length := by omega
    rw [hj]
    have hat : atI (cs.map fun c => AV.dat (.int c)) (j : Int) = some (.dat (.int cs[j])) := atI_nat (by rw [List.getElem?_map, List.getElem?_eq_getElem hj4]; rfl)
    have hix : ixN cs.length (j : Int) = some j := by
      unfold ixN
      rw [if_pos (by omega), if_pos (by omega)]
      simp
    refine ⟨by omega, _, hat, .inr (by omega), _, rfl, by omega, j, hix, cs.set j (cs[j] + z * (i + 2)), by rw [List.length_set, hl4, ← e2, hl4], ?_⟩
    rw [mset_mset]
    simp only [cellsI, List.map_set]
  · subst e1 e3
    walk_at "dl"
    simp [mFrz, mVar]
    refine ⟨cs.map PyData.int, by rw [mset_same, List.map_map]; rfl, ?_⟩
    rw [mset_none hp]
    exact q cs (by omega)
end
end K1


namespace K1
open PySem PySem.Spec PyProof.Rows L2 RZ DL
local macro_rules | `(tactic| walk_at "dl") => `(tactic| simp [and_assoc, mRet, mAnd, mOr, mCall, mCons, mVar, mCls, mNil, mC, oIsi, oIsi2, mNot, startD, mSeq, mIfS, mTOr, mTAnd, mTNot, mTest, mChain, mNext, oA1, oA2, oIB, oII, oII0, mOp, mUn, mAsg, mgName, mgTup, mgCons_c, mgNil_n, zipAs_l, zipAs_t, oSl_l, oSl_t, oSl_s, oSl_r, mPart, mSl, mIf, wipeD, oSign, oSS, oLen, LenD_s, LenD_l, LenD_t, LenD_m, miZ, miS, miT, miL, miE, miR, oEq, oNe, eqD_i, eqD_b, eqD_s, oInT, oIx, ixD_l, ixD_t, ixD_s, ixD_m, ix0, ix1, ix2, ix3, oAbs, oInt, oMax, oMin, mPar, mPar3, mTup, mLst, mLstM, asD, mExpr, itemsD_l, itemsD_t, oNeg, mgSub, mset_same, isStr, isTup, isLst, isBool, DL.isInt])
section
variable {P : Program} {w : World} {K : PySem.W.Frag} {mg : Str → Option Value} {base : Heap}
/-- a comprehension whose element draws from a tape, k times at most -/
theorem lc_fr {MI : DIx} {G : DGx} {ME : DEx} {vs : List Nat} {δ : Dl} {μ μ1 : Mu} {P : DV} (t : Addr) (n k : Int) (p : PyData → Prop) (ds : List PyData) (hi : ∀ R : List PyData → Mu → Prop, R ds μ1 → MI δ μ R) (hz : ds.length ≤ sizeLine) (h0 : TapeAt t n μ1)
    (h : ∀ (i : Nat) d, ds[i]? = some d → ∀ (μ' : Mu) (R : DV), TapeAt t (n + k * (i : Nat)) μ' → (∀ e μ2, p e → TapeAt t (n + k * i + k) μ2 → Fr t μ' μ2 → R (.dat e) μ2) → G (.dat d) (wipeD δ vs) μ' fun δ2 μ2 => ME δ2 μ2 R)
    (hP : ∀ acc μ', acc.length = ds.length → (∀ e ∈ acc, p e) → TapeAt t (n + k * ds.length) μ' → Fr t μ1 μ' → P (.dat (.list acc)) μ') : mLc MI G (fun _ μ P => P true μ) ME vs δ μ P := by
  have ht : μ1 t ≠ none := by
    obtain ⟨a, b, c, e, _⟩ := h0
    rw [e]
    simp
  have nt : ∀ D, μ1 D = none → D ≠ t := fun D hD e => ht (by rw [← e]; exact hD)
  refine lc_inv (μ1 := μ1) (fun (i : Nat) μ' => TapeAt t (n + k * (i : Nat)) μ' ∧ ∀ b, b ≠ t → μ1 b ≠ none → μ' b = μ1 b) p ds hi hz (fun i μ' D o hD ⟨j1, j2⟩ => ⟨?_, fun b hb hn => ?_⟩) ⟨by simpa using h0, fun _ _ _ => rfl⟩ (fun i d hd μ' R ⟨j1, j2⟩ r => ?_) fun acc μ' w1 w2 ⟨j1, j2⟩ w3 => ?_
  · obtain ⟨a, b, c, e, rest⟩ := j1
    exact ⟨a, b, c, by rw [mset_ne (nt D hD).symm]; exact e, rest⟩
  · have e : b ≠ D := fun z => hn (by rw [z]; exact hD)
    rw [mset_ne e]
    exact j2 b hb hn
  · refine h i d hd μ' R j1 fun e μ2 he ht2 hf => r e μ2 he ⟨?_, fun b hb hn => (hf b hb).trans (j2 b hb hn)⟩ fun D hD => hf D (nt D hD)
    have e1 : n + k * ((i + 1 : Nat) : Int) = n + k * i + k := by
      rw [Int.natCast_add, Int.mul_add]
      omega
    rw [e1]
    exact ht2
  · refine hP acc μ' w1 w2 j1 fun b hb => ?_
    by_cases e : μ1 b = none
    · rw [e, w3 b e]
    · exact j2 b hb e
theorem lc_frs {MI : DIx} {G : DGx} {ME : DEx} {vs : List Nat} {δ : Dl} {μ : Mu} {P : DV} (ok : List PyData → Mu → Prop) (hi : ∀ R : List PyData → Mu → Prop, (∀ ds μ1, ok ds μ1 → R ds μ1) → MI δ μ R) (t : Addr) (n k : Int) (p : PyData → Prop) (hz : ∀ ds μ1, ok ds μ1 → ds.length ≤ sizeLine ∧ TapeAt t n μ1)
    (h : ∀ ds μ1, ok ds μ1 → ∀ (i : Nat) d, ds[i]? = some d → ∀ (μ' : Mu) (R : DV), TapeAt t (n + k * (i : Nat)) μ' → (∀ e μ2, p e → TapeAt t (n + k * i + k) μ2 → Fr t μ' μ2 → R (.dat e) μ2) → G (.dat d) (wipeD δ vs) μ' fun δ2 μ2 => ME δ2 μ2 R)
    (hP : ∀ ds μ1, ok ds μ1 → ∀ acc μ', acc.length = ds.length → (∀ e ∈ acc, p e) → TapeAt t (n + k * ds.length) μ' → Fr t μ1 μ' → P (.dat (.list acc)) μ') : mLc MI G (fun _ μ P => P true μ) ME vs δ μ P :=
  hi _ fun ds μ1 q => lc_fr (MI := fun _ μ R => R ds μ) t n k p ds (fun _ r => r) (hz ds μ1 q).1 (hz ds μ1 q).2 (h ds μ1 q) (hP ds μ1 q)
/-! ### names -/
theorem rangeD_len (n : Nat) : (rangeD 0 n).length = n := by simp [rangeD]
theorem rangeD_get {n i : Nat} {d : PyData} (h : (rangeD 0 n)[i]? = some d) : d = .int (i : Nat) ∧ i < n := by
  have hi : i < n := by
    have := (List.getElem?_eq_some_iff.mp h).1
    rwa [rangeD_len] at this
  unfold rangeD at h
  rw [List.getElem?_map, List.getElem?_range hi] at h
  cases h
  exact ⟨by simp, hi⟩
def nameOk (s : Str) : Prop := s.length ≤ 20 ∧ ∀ c ∈ s.cps.toList, c < 128
theorem let_at {r : Int} (h0 : 0 ≤ r) (h1 : r < 26) : ∃ c : Nat, atI (Str.ofString "abcdefghijklmnopqrstuvwxyz").cps.toList r = some c ∧ c < 128 ∧ (c : Int) = 97 + r := by
  obtain ⟨j, rfl⟩ : ∃ j : Nat, r = (j : Int) := ⟨r.toNat, by omega⟩
  have all26 : ∀ i : Fin 26, (Str.ofString "abcdefghijklmnopqrstuvwxyz").cps.toList[i.val]? = some (97 + i.val) := by decide +kernel
  exact ⟨97 + j, atI_nat (all26 ⟨j, by omega⟩), by omega, by omega⟩
theorem let_len : (Str.ofString "abcdefghijklmnopqrstuvwxyz").length ≤ sizeLine := by decide +kernel
def oneSign (d : PyData) : Prop := ∃ c : Nat, d = .str ⟨#[c]⟩ ∧ c < 128
theorem ones : ∀ {acc : List PyData}, (∀ e ∈ acc, oneSign e) → ∃ ys : List Str, acc = ys.map PyData.str ∧ ∀ y ∈ ys, ∃ c : Nat, y = ⟨#[c]⟩ ∧ c < 128
  | [], _ => ⟨[], rfl, by simp⟩
  | d :: acc, h => by
    obtain ⟨c, rfl, hc⟩ := h d List.mem_cons_self
    obtain ⟨ys, rfl, hy⟩ := ones fun e he => h e (List.mem_cons_of_mem _ he)
    refine ⟨⟨#[c]⟩ :: ys, rfl, fun y hy' => ?_⟩
    rcases List.mem_cons.mp hy' with e | e
    · exact ⟨c, e, hc⟩
    · exact hy y e
theorem ones_sum : ∀ {ys : List Str}, (∀ y ∈ ys, ∃ c : Nat, y = ⟨#[c]⟩ ∧ c < 128) → (ys.map (·.length)).sum = ys.length
  | [], _ => rfl
  | y :: ys, h => by
    obtain ⟨c, rfl, _⟩ := h y List.mem_cons_self
    have ih := ones_sum fun e he => h e (List.mem_cons_of_mem _ he)
    rw [List.map_cons, List.sum_cons, ih, List.length_cons]
    show 1 + ys.length = ys.length + 1
    omega
theorem join_ones {ys : List Str} (h : ∀ y ∈ ys, ∃ c : Nat, y = ⟨#[c]⟩ ∧ c < 128) : (Txt.join (Str.ofString "") ys).length ≤ ys.length ∧ ∀ c ∈ (Txt.join (Str.ofString "") ys).cps.toList, c < 128 := by
  have e : Txt.join (Str.ofString "") ys = Str.join (Str.ofString "") ys := StrLaws.glued_eq_join _ _
  rw [e]
  constructor
  · have h1 := StrLaws.join_length_le (Str.ofString "") ys
    rw [ones_sum h] at h1
    have h2 : ys.length * (Str.ofString "").length = 0 := rfl
    omega
  · intro c hc
    rcases (PyProof.Rows.mem_join _ c ys).mp hc with ⟨y, hy, hcy⟩ | ⟨_, hc0⟩
    · obtain ⟨c', rfl, hc'⟩ := h y hy
      have : c = c' := by simpa using hcy
      omega
    · have hc1 : c ∈ ([] : List Nat) := hc0
      cases hc1
theorem cut_ok {z : Str} {n : Nat} (lo hi : Option Int) (h1 : z.length ≤ n) (h2 : ∀ c ∈ z.cps.toList, c < 128) : (cutS z lo hi).length ≤ n ∧ ∀ c ∈ (cutS z lo hi).cps.toList, c < 128 := by
  refine ⟨Nat.le_trans (cutS_length z lo hi) h1, fun c hc => h2 c ?_⟩
  unfold cutS at hc
  have hc' := List.mem_of_mem_take (by simpa using hc)
  exact List.mem_of_mem_drop hc'
theorem str_append_mem {a b : Str} {c : Nat} (h : c ∈ (a ++ b).cps.toList) : c ∈ a.cps.toList ∨ c ∈ b.cps.toList := by
  have e : (a ++ b).cps.toList = a.cps.toList ++ b.cps.toList := by
    show (a.cps ++ b.cps).toList = _
    rw [Array.toList_append]
  rw [e] at h
  exact List.mem_append.mp h
theorem str_append_len (a b : Str) : (a ++ b).length = a.length + b.length := by
  show (a.cps ++ b.cps).size = _
  rw [Array.size_append]
  rfl
theorem name_ok {head z : Str} {c : Nat} (hc : c < 128) (h1 : head.length ≤ 7) (h2 : ∀ c ∈ head.cps.toList, c < 128) (h3 : z.length ≤ 7) (h4 : ∀ c ∈ z.cps.toList, c < 128) : nameOk (head ++ ⟨#[c]⟩ ++ z) := by
  refine ⟨?_, fun d hd => ?_⟩
  · rw [str_append_len, str_append_len]
    have : (⟨#[c]⟩ : Str).length = 1 := rfl
    omega
  · rcases str_append_mem hd with h | h
    · rcases str_append_mem h with h | h
      · exact h2 d h
      · have : d = c := by simpa using h
        omega
    · exact h4 d h
theorem app_ok {w : Int} {i : Nat} {a0 a1 a2 a3 a4 a5 a6 : Option AV} {p : Addr} {head tail : Str} {c : Nat} {μ : Mu} {as : List AV} {R : DV} (hw : w = 0 ∨ w = 1 ∨ w = 2) (hi : i < 26) (h1 : head.length ≤ 7) (h3 : tail.length ≤ 7) (h4 : ∀ c ∈ tail.cps.toList, c < 128)
    (hp : μ p = some (.lst as)) (ha : as.length < sizeLine) (hR : ∀ z : Str, z.length ≤ tail.length → (∀ c ∈ z.cps.toList, c < 128) → (w = 1 → z = if (i : Int) % 2 = 1 then tail else Str.empty) → R (.dat .none) (mset μ p (some (.lst (as ++ [.dat (.str (head ++ ⟨#[c]⟩ ++ z))]))))) :
    mAppend (mVar 7) (mCons (mOp oAddS (mOp oAddS (mVar 8) (mVar 12)) (mOp oIx (mLst (mCons (mVar 9) (mCons (mOp oMul01 (mVar 9) (mOp (oII (fun x j => 0 < j) fun i j => i % j) (mVar 10) (mC (PyData.int 2)))) (mCons (mSl (mVar 9) (fun x μ P => P none μ) (mPart (mOp (oII (fun x j => 0 < j) fun i j => i % j) (mVar 10) (mOp (oII0 fun i j => i + j) (mCall (oA1 oLen) (mCons (mVar 9) mNil)) (mC (PyData.int 1)))))) mNil)))) (mVar 11))) mNil)
      [a0, a1, a2, a3, a4, a5, a6, some (.mut p), some (.dat (.str head)), some (.dat (.str tail)), some (.dat (.int i)), some (.dat (.int w)), some (.dat (.str ⟨#[c]⟩))] μ R := by
  have hpar : (i : Int) % 2 = 0 ∨ (i : Int) % 2 = 1 := by omega
  have hl1 : (⟨#[c]⟩ : Str).length = 1 := rfl
  have hs : sizeLine = 16777216 := sizeLine_eq
  have htl : tail.length ≤ sizeLine := by omega
  have hcl : ∀ k : Int, (cutS tail none (some k)).length ≤ tail.length ∧ ∀ c ∈ (cutS tail none (some k)).cps.toList, c < 128 := fun k => cut_ok none (some k) (Nat.le_refl _) h4
  have hmod : 0 < (tail.length : Int) + 1 := by omega
  obtain ⟨h5, h6⟩ := hcl ((i : Int) % ((tail.length : Int) + 1))
  refine ⟨_, rfl, _, as, rfl, hp, ?_⟩
  walk_at "dl"
  have he : (head ++ (⟨#[c]⟩ : Str)).length = head.length + 1 := by rw [str_append_len, hl1]
  have key : ∀ z : Str, z.length ≤ tail.length → (∀ c ∈ z.cps.toList, c < 128) → head.length + (⟨#[c]⟩ : Str).length ≤ sizeLine ∧ (head ++ (⟨#[c]⟩ : Str)).length + z.length ≤ sizeLine := fun z hz _ => ⟨by omega, by omega⟩
  refine ⟨head, ⟨#[c]⟩, rfl, rfl, by omega, ?_⟩
  refine ⟨tail, (i : Int) % 2, rfl, rfl, ?_⟩
  have fin : ∀ z : Str, z.length ≤ tail.length → (∀ c ∈ z.cps.toList, c < 128) → (w = 1 → z = if (i : Int) % 2 = 1 then tail else Str.empty) → oAddS (.dat (.str (head ++ ⟨#[c]⟩))) (.dat (.str z)) μ fun x μ1 => ∃ as, μ1 p = some (.lst as) ∧ as.length < sizeLine ∧ R (.dat .none) (mset μ1 p (some (.lst (as ++ [x])))) := fun z hz hz2 hz3 =>
    ⟨_, z, rfl, rfl, (key z hz hz2).2, as, hp, ha, hR z hz hz2 hz3⟩
  have l3 : ∀ a b c : PyData, [a, b, c].length ≤ sizeLine := fun a b c => by
    show 3 ≤ sizeLine
    omega
  have e0 : Str.empty.length ≤ tail.length := Nat.zero_le _
  have e1 : ∀ c ∈ Str.empty.cps.toList, c < 128 := fun c hc => by
    have hc1 : c ∈ ([] : List Nat) := hc
    cases hc1
  rcases hpar with hq | hq
  · refine .inl ⟨hq, htl, _, ⟨_, rfl, rfl⟩, l3 _ _ _, ?_⟩
    rcases hw with rfl | rfl | rfl
    · exact ⟨_, ⟨_, rfl, ix0 _ _⟩, fin tail (Nat.le_refl _) h4 fun h => absurd h (by decide)⟩
    · exact ⟨_, ⟨_, rfl, ix1 _ _ _⟩, fin Str.empty e0 e1 fun _ => by rw [if_neg (by omega)]⟩
    · exact ⟨_, ⟨_, rfl, ix2 _ _ _ _⟩, fin _ h5 h6 fun h => absurd h (by decide)⟩
  · refine .inr ⟨hq, htl, htl, _, ⟨_, rfl, rfl⟩, l3 _ _ _, ?_⟩
    rcases hw with rfl | rfl | rfl
    · exact ⟨_, ⟨_, rfl, ix0 _ _⟩, fin tail (Nat.le_refl _) h4 fun h => absurd h (by decide)⟩
    · exact ⟨_, ⟨_, rfl, ix1 _ _ _⟩, fin tail (Nat.le_refl _) h4 fun _ => by rw [if_pos hq]⟩
    · exact ⟨_, ⟨_, rfl, ix2 _ _ _ _⟩, fin _ h5 h6 fun h => absurd h (by decide)⟩
/-- the i-th name -/
def NameAt (sh st w : Int) (head tail : Str) (i : Nat) (x : Str) : Prop := ∃ (c : Nat) (z : Str), x = head ++ ⟨#[c]⟩ ++ z ∧ (c : Int) = 97 + (sh + st * (if w = 1 then (i : Int) / 2 else i)) % 26 ∧ (w = 1 → z = if (i : Int) % 2 = 1 then tail else Str.empty)
theorem name_ne {sh st w : Int} {head tail : Str} {i j : Nat} {x : Str} (hst : st = 1 ∨ st = 7 ∨ st = 25) (ht : w = 1 → tail.length ≠ 0) (hi : i < 26) (hj : j < 26) (h1 : NameAt sh st w head tail i x) (h2 : NameAt sh st w head tail j x) : i = j := by
  obtain ⟨c, z, e1, hc, hz⟩ := h1
  obtain ⟨d, y, e2, hd, hy⟩ := h2
  have e : (head ++ (⟨#[c]⟩ : Str) ++ z).cps.toList = (head ++ (⟨#[d]⟩ : Str) ++ y).cps.toList := by rw [← e1, e2]
  have cat : ∀ a b : Str, (a ++ b).cps.toList = a.cps.toList ++ b.cps.toList := fun a b => by
    show (a.cps ++ b.cps).toList = _
    rw [Array.toList_append]
  rw [cat, cat, cat, cat, List.append_assoc, List.append_assoc] at e
  have e3 := List.append_cancel_left e
  have e4 : c = d ∧ z.cps.toList = y.cps.toList := by
    have : c :: z.cps.toList = d :: y.cps.toList := e3
    exact ⟨(List.cons.inj this).1, (List.cons.inj this).2⟩
  by_cases hw : w = 1
  · rw [if_pos hw] at hc hd
    have h2 : (i : Int) / 2 = (j : Int) / 2 := by
      have := e4.1
      rcases hst with rfl | rfl | rfl <;> omega
    have hlen : z.length = y.length := by
      show z.cps.size = y.cps.size
      rw [← Array.length_toList, ← Array.length_toList, e4.2]
    have hz' := hz hw
    have hy' := hy hw
    have ht' := ht hw
    have he : Str.empty.length = 0 := rfl
    by_cases p : (i : Int) % 2 = 1
    · rw [if_pos p] at hz'
      by_cases q : (j : Int) % 2 = 1
      · omega
      · rw [if_neg q] at hy'
        rw [hz', hy'] at hlen
        omega
    · rw [if_neg p] at hz'
      by_cases q : (j : Int) % 2 = 1
      · rw [if_pos q] at hy'
        rw [hz', hy'] at hlen
        omega
      · omega
  · rw [if_neg hw] at hc hd
    have := e4.1
    rcases hst with rfl | rfl | rfl <;> omega
theorem names_nodup {sh st w : Int} {head tail : Str} {ss : List Str} (hst : st = 1 ∨ st = 7 ∨ st = 25) (ht : w = 1 → tail.length ≠ 0) (hl : ss.length ≤ 26) (h : ∀ k x, ss[k]? = some x → NameAt sh st w head tail k x) : ss.Nodup := by
  refine List.pairwise_iff_getElem.mpr fun i j hi hj hij e => ?_
  have h1 := h i _ (List.getElem?_eq_getElem hi)
  have h2 := h j _ (List.getElem?_eq_getElem hj)
  rw [e] at h1
  have := name_ne hst ht (by omega) (by omega) h1 h2
  omega
theorem str_ne_len {z : Str} (h : z ≠ Str.ofString "") : z.length ≠ 0 := fun e => h (by
  obtain ⟨a⟩ := z
  have : a = #[] := Array.size_eq_zero_iff.mp e
  rw [this]
  rfl)
def d_law_names : DOs := fun as μ Q => ∃ (t : Addr) (n : Int) (m : Nat), as = [.mut t, .dat (.int (m : Nat))] ∧ m ≤ 26 ∧ TapeAt t n μ ∧ n ≤ 900000 ∧ ∀ (ss : List Str) (μ' : Mu), ss.length = m → ss.Nodup → (∀ s ∈ ss, nameOk s) → TapeAt t (n + 20) μ' → Fr t μ μ' → Q (.dat (.list (ss.map PyData.str))) μ'
theorem ok_law_names (T : Txt K mg) (p_law_draw : Prm P w K mg base 1 "_law_draw" 2 d_law_draw) {f : Addr} {fd : FuncData} (D : DefAt K mg "_law_names" s_law_names ["tape", "many"] f fd) : Prm P w K mg base 2 "_law_names" 2 d_law_names := by
  refine prm_of D sc_law_names rfl (fun as μ Q ⟨t, n, m, e, _⟩ => by rw [e]; rfl) fun cdv A out s H hr hg => ⟨_, _,
(db_cons (ds_asg (vs := [2, 3]) (de_tup (da_cons de_str (da_cons (de_call p_law_draw (hr.mono (by omega)) hg (by rfl) (da_cons (de_var (pv 0)) (da_cons de_int da_nil))) da_nil))) (dg_tup (K := K) (n := 2) rfl rfl (dgs_cons (dg_name (pg_name (i := 2) sc_law_names.nd rfl (by first | exact Or.inl rfl | exact Or.inr rfl)) (by decide)) (dgs_cons (dg_name (pg_name (i := 3) sc_law_names.nd rfl (by first | exact Or.inl rfl | exact Or.inr rfl)) (by decide)) dgs_nil))))
    (db_cons (ds_setE (i := 4) sc_law_names.nd rfl (by first | exact Or.inl rfl | exact Or.inr rfl) (de_joinE de_str (de_lc (own := [("k", 10)]) rfl sc_law_names.nd (di_rangeE (by rfl) T.n_range (da_cons (de_call p_law_draw (hr.mono (by omega)) hg (by rfl) (da_cons (de_var (pv 0)) (da_cons de_int da_nil))) da_nil)) (blkOk_by (N := N_law_names) (sc := defScope s_law_names) (by decide +kernel)) (fun _ _ _ _ _ => (dg_name (pg_name (i := 10) sc_law_names.nd rfl (by first | exact Or.inl rfl | exact Or.inr rfl)) (by decide))) (fun _ _ _ _ _ => dts_nil) (fun _ _ _ _ _ => (de_ixL (K := K) (de_var (pv 2)) (de_callC p_law_draw rfl rfl rfl rfl rfl (hr.mono (by omega)) hg (by rfl) (da_cons (de_var (pv 0)) (da_cons de_int da_nil))) (fun _ _ => rfl))))))
    (db_cons (ds_par3E (i := 5) (j := 6) (l := 7) rfl sc_law_names.nd rfl rfl rfl (by decide) (by decide) (by decide) rfl rfl rfl (da_cons (de_call p_law_draw (hr.mono (by omega)) hg (by rfl) (da_cons (de_var (pv 0)) (da_cons (de_op op_add so_II0 (de_callB call_len (so_A1 so_len) (by rfl) T.n_len (by decide +kernel) (da_cons (de_var (pv 4)) da_nil)) de_int) da_nil))) (da_cons (de_ix (de_lst (da_cons de_int (da_cons de_int (da_cons de_int da_nil)))) (de_call p_law_draw (hr.mono (by omega)) hg (by rfl) (da_cons (de_var (pv 0)) (da_cons de_int da_nil))) (fun _ _ => rfl)) (da_cons (dm_lst da_nil) da_nil))) rfl)
    (db_cons (ds_parE (i := 8) (j := 9) rfl sc_law_names.nd rfl rfl (by decide) rfl rfl (da_cons (de_slice (de_var (pv 4)) dp_none (dp_some (de_var (pv 5)))) (da_cons (de_slice (de_var (pv 4)) (dp_some (de_var (pv 5))) dp_none) da_nil)) rfl)
    (db_cons (ds_for (vs := [10]) PassesOwn.never rfl (di_rangeE (by rfl) T.n_range (da_cons (de_var (pv 1)) da_nil)) (dg_name (pg_name (i := 10) sc_law_names.nd rfl (by first | exact Or.inl rfl | exact Or.inr rfl)) (by decide)) (db_cons (ds_setE (i := 11) sc_law_names.nd rfl (by first | exact Or.inl rfl | exact Or.inr rfl) (de_op op_mul so_II (de_op op_mod so_II (de_op op_add so_II0 (de_op op_add so_II0 (de_var (pv 3)) (de_var (pv 5))) (de_callB call_len (so_A1 so_len) (by rfl) T.n_len (by decide +kernel) (da_cons (de_var (pv 4)) da_nil))) de_int) (de_callTy call_int1 (so_A1 so_int) (by rfl) T.n_int (by decide +kernel) (da_cons (de_cmp op_ne so_ne (de_var (pv 9)) de_str) da_nil))))
    (db_cons (ds_setE (i := 12) sc_law_names.nd rfl (by first | exact Or.inl rfl | exact Or.inr rfl) (de_ix (de_var (pv 2)) (de_op op_mod so_II (de_op op_add so_II0 (de_var (pv 3)) (de_op op_mul so_II (de_var (pv 6)) (de_ix (de_lst (da_cons (de_var (pv 10)) (da_cons (de_op op_fdivW so_II (de_var (pv 10)) de_int) (da_cons (de_var (pv 10)) da_nil)))) (de_var (pv 11)) (fun _ _ => rfl)))) de_int) (fun _ _ => rfl)))
    (db_one (ds_expr (de_appendE (de_var (pv 7)) (da_cons (de_op op_add_str so_addS (de_op op_add_str so_addS (de_var (pv 8)) (de_var (pv 12))) (de_ix (de_lst (da_cons (de_var (pv 9)) (da_cons (de_op op_01 so_01 (de_var (pv 9)) (de_op op_mod so_II (de_var (pv 10)) de_int)) (da_cons (de_slice (de_var (pv 9)) dp_none (dp_some (de_op op_mod so_II (de_var (pv 10)) (de_op op_add so_II0 (de_callB call_len (so_A1 so_len) (by rfl) T.n_len (by decide +kernel) (da_cons (de_var (pv 9)) da_nil)) de_int)))) da_nil)))) (de_var (pv 11)) (fun _ _ => rfl))) da_nil)))))))
    (db_one (ds_ret (de_frz (de_var (pv 7))))))))))
    , fun as μ Q ⟨t, n, m, e, hm, ht, hn, q⟩ => ?_⟩
  subst e
  walk_at "dl"
  refine ⟨t, 26, n, rfl, ht, by omega, by decide, by decide, fun sh μ1 hs0 hs1 ht1 hf1 => ?_⟩
  walk_at "dl"
  refine ⟨by decide, lc_frs (fun ds μ2 => ∃ r : Int, 0 ≤ r ∧ r < 8 ∧ ds = rangeD 0 r.toNat ∧ TapeAt t (n + 2) μ2 ∧ Fr t μ μ2) (fun R hR => ?_) t (n + 2) 1 oneSign (fun ds μ2 ⟨r, h0, h1, e, ht2, _⟩ => ⟨?_, ht2⟩) (fun ds μ2 ⟨r, h0, h1, e, ht2, hf2⟩ i d hd μ' R hti hR => ?_) fun ds μ2 ⟨r, h0, h1, e, ht2, hf2⟩ acc μ3 hl hacc ht3 hf3 => ?_⟩
  · walk_at "dl"
    refine ⟨t, 8, n + 1, rfl, ht1, by omega, by decide, by decide, fun r μ2 h0 h1 ht2 hf2 => ⟨r, rfl, by omega, by omega, hR _ _ ⟨r, h0, h1, rfl, ht2.le (by omega), hf1.trans hf2⟩⟩⟩
  · rw [e, rangeD_len, sizeLine_eq]
    omega
  · subst e
    obtain ⟨rfl, hi⟩ := rangeD_get hd
    walk_at "dl"
    refine ⟨t, 26, n + 2 + 1 * i, rfl, hti, by omega, by decide, by decide, fun r2 μ4 h2 h3 ht4 hf4 => ?_⟩
    obtain ⟨c, hc, hc2, _⟩ := let_at h2 h3
    exact ⟨r2, rfl, _, ⟨c, rfl, let_len, hc⟩, hR _ _ ⟨c, rfl, hc2⟩ ht4 hf4⟩
  · subst e
    rw [rangeD_len] at hl ht3
    obtain ⟨ys, rfl, hys⟩ := ones hacc
    rw [List.length_map] at hl
    have hl8 : ys.length ≤ 7 := by omega
    obtain ⟨hst1, hst2⟩ := join_ones hys
    refine ⟨Str.ofString "", _, ys, rfl, rfl, rfl, ?_, ?_⟩
    · rw [ones_sum hys]
      show ys.length + ys.length * 0 ≤ _
      omega
    generalize Txt.join (Str.ofString "") ys = stem at hst1 hst2 ⊢
    have hsl : stem.length ≤ sizeLine := by rw [sizeLine_eq]; omega
    refine ⟨stem.length, by rw [LenD_s]; exact ⟨hsl, rfl⟩, t, _, n + 9, rfl, ht3.le (by omega), by omega, by omega, by omega, fun at_ μ4 h2 h3 ht4 hf4 => ?_⟩
    refine ⟨by decide, t, 3, n + 10, rfl, ht4.le (by omega), by omega, by decide, by decide, fun si μ5 h4 h5 ht5 hf5 => ?_⟩
    obtain ⟨st, hst⟩ : ∃ st : Int, atI [PyData.int 1, PyData.int 7, PyData.int 25] si = some (.int st) ∧ (st = 1 ∨ st = 7 ∨ st = 25) := by
      obtain rfl | rfl | rfl : si = 0 ∨ si = 1 ∨ si = 2 := by omega
      · exact ⟨1, ix0 _ _, by decide⟩
      · exact ⟨7, ix1 _ _ _, by decide⟩
      · exact ⟨25, ix2 _ _ _ _, by decide⟩
    refine ⟨si, rfl, .dat (.int st), ⟨_, rfl, hst.1⟩, fun p hp => ⟨at_, rfl, ?_⟩⟩
    rw [oSl_s]
    refine ⟨hsl, at_, rfl, ?_⟩
    rw [oSl_s]
    refine ⟨hsl, ?_⟩
    obtain ⟨hh1, hh2⟩ := cut_ok none (some at_) hst1 hst2
    obtain ⟨hu1, hu2⟩ := cut_ok (some at_) none hst1 hst2
    generalize cutS stem none (some at_) = head at hh1 hh2 ⊢
    generalize cutS stem (some at_) none = tail at hu1 hu2 ⊢
    obtain ⟨w0, hw0⟩ : ∃ w0 : Int, w0 = if tail = Str.ofString "" then 0 else (sh + at_ + (stem.length : Int)) % 3 := ⟨_, rfl⟩
    have hst25 : 0 ≤ st ∧ st ≤ 25 := by rcases hst.2 with h | h | h <;> omega
    refine for_by (μ1 := mset μ5 p (some (.lst []))) (rangeD 0 m) (fun R r => by walk_at "dl"; first | exact r | exact ⟨by omega, r⟩) (fun i δ' μ' => ∃ (ss : List Str) (y1 y2 y3 : Option AV), δ' = [some (.mut t), some (.dat (.int (m : Nat))), some (.dat (.str (Str.ofString "abcdefghijklmnopqrstuvwxyz"))), some (.dat (.int sh)), some (.dat (.str stem)), some (.dat (.int at_)), some (.dat (.int st)), some (.mut p), some (.dat (.str head)), some (.dat (.str tail)), y1, y2, y3] ∧
      ss.length = i ∧ (∀ s ∈ ss, nameOk s) ∧ μ' = mset μ5 p (some (.lst (ss.map fun s => AV.dat (.str s)))) ∧ ∀ k x, ss[k]? = some x → NameAt sh st w0 head tail k x) ⟨[], none, none, none, rfl, rfl, by simp, rfl, by simp⟩ (fun i d δ' μ' hd ⟨ss, y1, y2, y3, e1, e2, e3, e4, e5⟩ => ?_) (fun δ' μ' ⟨ss, y1, y2, y3, e1, e2, e3, e4, e5⟩ => ?_)
    · subst e1 e4
      obtain ⟨rfl, hi⟩ := rangeD_get hd
      have fin : ∀ (c : Nat) (z : Str), c < 128 → z.length ≤ 7 → (∀ c ∈ z.cps.toList, c < 128) → NameAt sh st w0 head tail i (head ++ ⟨#[c]⟩ ++ z) → ∃ ss' : List Str, ss'.length = i + 1 ∧ (∀ s ∈ ss', nameOk s) ∧
          mset (mset μ5 p (some (.lst (ss.map fun s => AV.dat (.str s))))) p (some (.lst (ss.map (fun s => AV.dat (.str s)) ++ [.dat (.str (head ++ ⟨#[c]⟩ ++ z))]))) = mset μ5 p (some (.lst (ss'.map fun s => AV.dat (.str s)))) ∧ ∀ k x, ss'[k]? = some x → NameAt sh st w0 head tail k x := fun c z hc hz hz2 hn => by
        refine ⟨ss ++ [head ++ ⟨#[c]⟩ ++ z], by simp [e2], fun s hs => ?_, by rw [mset_mset, List.map_append]; rfl, fun k x hk => ?_⟩
        · rcases List.mem_append.mp hs with h | h
          · exact e3 s h
          · rw [List.mem_singleton.mp h]
            exact name_ok hc (by omega) hh2 hz hz2
        · by_cases hki : k < ss.length
          · rw [List.getElem?_append_left hki] at hk
            exact e5 k x hk
          · rw [List.getElem?_append_right (by omega)] at hk
            have hk0 : k - ss.length = 0 := by
              cases hq : k - ss.length with
              | zero => rfl
              | succ j => rw [hq] at hk; cases hk
            rw [hk0] at hk
            cases hk
            have : k = i := by omega
            rw [this]
            exact hn
      have hls : ∀ x : Int, ∃ c : Nat, atI (Str.ofString "abcdefghijklmnopqrstuvwxyz").cps.toList (x % 26) = some c ∧ c < 128 ∧ (c : Int) = 97 + x % 26 := fun x => let_at (Int.emod_nonneg _ (by decide)) (Int.emod_lt_of_pos _ (by decide))
      have hpar : (i : Int) % 2 = 0 ∨ (i : Int) % 2 = 1 := by omega
      have htl : tail.length ≤ sizeLine := by rw [sizeLine_eq]; omega
      have hz0 : (0 : Nat) ≤ sizeLine := Nat.zero_le _
      walk_at "dl"
      refine ⟨hsl, ?_⟩
      by_cases htail : tail = Str.ofString ""
      · right
        refine ⟨htail, .inr (by decide), divw (by decide) (by decide), by decide, mulw (by omega) (by omega), ?_⟩
        obtain ⟨c, hc, hc2, hc3⟩ := hls (sh + st * i)
        refine ⟨_, ⟨c, rfl, let_len, hc⟩, ?_⟩
        refine app_ok (w := 0) (.inl rfl) (by omega) (by omega) (by omega) hu2 mset_same (by rw [List.length_map, e2, sizeLine_eq]; omega) fun z hz hz2 hz3 => ?_
        rw [if_pos htail] at hw0
        exact fin c z hc2 (by omega) hz2 ⟨c, z, rfl, by rw [hc3, if_neg (by omega)], by omega⟩
      · left
        rw [if_neg htail] at hw0
        have hw2 := Int.emod_nonneg (sh + at_ + (stem.length : Int)) (b := 3) (by decide)
        have hw1 := Int.emod_lt_of_pos (sh + at_ + (stem.length : Int)) (b := 3) (by decide)
        generalize (sh + at_ + (stem.length : Int)) % 3 = w at hw0 hw1 hw2 ⊢
        have hw : w = 0 ∨ w = 1 ∨ w = 2 := by omega
        obtain ⟨x, hx, hx0, hx1, hx2⟩ : ∃ x : Int, atI [PyData.int i, PyData.int ((i : Int) / 2), PyData.int i] w = some (.int x) ∧ 0 ≤ x ∧ x ≤ 26 ∧ x = if w = 1 then (i : Int) / 2 else i := by
          obtain rfl | rfl | rfl := hw
          · exact ⟨_, ix0 _ _, by omega, by omega, rfl⟩
          · exact ⟨_, ix1 _ _ _, by omega, by omega, rfl⟩
          · exact ⟨_, ix2 _ _ _ _, by omega, by omega, rfl⟩
        obtain ⟨c, hc, hc2, hc3⟩ := hls (sh + st * x)
        refine ⟨htail, .inr (by decide), divw (by decide) (by decide), by decide, _, ⟨_, rfl, hx⟩, x, rfl, mulw (by omega) (by omega), _, ⟨c, rfl, let_len, hc⟩, ?_⟩
        refine app_ok (w := w) hw (by omega) (by omega) (by omega) hu2 mset_same (by rw [List.length_map, e2, sizeLine_eq]; omega) fun z hz hz2 hz3 => ?_
        exact fin c z hc2 (by omega) hz2 ⟨c, z, rfl, by rw [hc3, hw0, hx2], by rw [hw0]; exact hz3⟩
    · subst e1 e4
      rw [rangeD_len] at e2
      walk_at "dl"
      simp [mFrz, mVar]
      refine ⟨ss.map PyData.str, by rw [mset_same, List.map_map]; rfl, ?_⟩
      rw [mset_none hp]
      exact q ss μ5 e2 (names_nodup hst.2 (fun h => str_ne_len fun z => by rw [if_pos z] at hw0; omega) (by omega) e5) e3 (ht5.le (by omega)) ((((hf2.trans hf3).trans hf4).trans hf5))
end
end K1


namespace K1
open PySem PySem.Spec PyProof.Rows L2 RZ DL
local macro_rules | `(tactic| walk_at "dl") => `(tactic| simp [and_assoc, mRet, mAnd, mOr, mCall, mCons, mVar, mCls, mNil, mC, oIsi, oIsi2, mNot, startD, mSeq, mIfS, mTOr, mTAnd, mTNot, mTest, mChain, mNext, oA1, oA2, oIB, oII, oII0, mOp, mUn, mAsg, mgName, mgTup, mgCons_c, mgNil_n, zipAs_l, zipAs_t, oSl_l, oSl_t, oSl_s, oSl_r, mPart, mSl, mIf, wipeD, oSign, oSS, oLen, LenD_s, LenD_l, LenD_t, LenD_m, miZ, miS, miT, miL, miE, miR, oEq, oNe, eqD_i, eqD_b, eqD_s, oInT, oIx, ixD_l, ixD_t, ixD_s, ixD_m, ix0, ix1, ix2, ix3, oAbs, oInt, oMax, oMin, mPar, mPar3, mTup, mLst, mLstM, asD, mExpr, itemsD_l, itemsD_t, oNeg, mgSub, mset_same, isStr, isTup, isLst, isBool, DL.isInt])
section
variable {P : Program} {w : World} {K : PySem.W.Frag} {mg : Str → Option Value} {base : Heap}
theorem ers {α β : Type} (f : α → β) : ∀ (l : List α) (j : Nat), (l.map f).eraseIdx j = (l.eraseIdx j).map f
  | [], _ => rfl
  | _ :: _, 0 => rfl
  | a :: l, j + 1 => by
    show f a :: (l.map f).eraseIdx j = f a :: (l.eraseIdx j).map f
    rw [ers f l j]
/-- a comprehension whose element changes cells: J holds of the elements and the cells at each turn -/
theorem lc_acc {MI : DIx} {G : DGx} {ME : DEx} {vs : List Nat} {δ : Dl} {μ μ1 : Mu} {P : DV} (J : List PyData → Mu → Prop) (ds : List PyData) (hi : ∀ R : List PyData → Mu → Prop, R ds μ1 → MI δ μ R) (hz : ds.length ≤ sizeLine)
    (hJ : ∀ acc μ' D o, μ1 D = none → J acc μ' → J acc (mset μ' D o)) (h0 : J [] μ1)
    (h : ∀ i d, ds[i]? = some d → ∀ (acc : List PyData) (μ' : Mu) (R : DV), acc.length = i → J acc μ' → (∀ e μ2, J (acc ++ [e]) μ2 → (∀ D, μ1 D = none → μ2 D = μ' D) → R (.dat e) μ2) → G (.dat d) (wipeD δ vs) μ' fun δ2 μ2 => ME δ2 μ2 R)
    (hP : ∀ acc μ', acc.length = ds.length → J acc μ' → (∀ b, μ1 b = none → μ' b = none) → P (.dat (.list acc)) μ') : mLc MI G (fun _ μ P => P true μ) ME vs δ μ P := by
  refine hi _ ⟨hz, fun D hD => ⟨fun i acc μ' => acc.length = i ∧ J acc μ' ∧ (∀ b, μ1 b = none → b ≠ D → μ' b = none), ⟨rfl, hJ [] μ1 D _ hD h0, fun b hb hn => by rw [mset_ne hn]; exact hb⟩, fun i d acc μ' hd ⟨w1, w3, w4⟩ hc => ?_, fun acc μ' ⟨w1, w3, w4⟩ _ => ?_⟩⟩
  · refine h i d hd acc μ' _ w1 w3 fun e μ2 hj hk => ⟨e, rfl, (hk D hD).trans hc, by rw [List.length_append]; simp [w1], hJ _ μ2 D _ hD hj, fun b hb hn => ?_⟩
    rw [mset_ne hn, hk b hb]
    exact w4 b hb hn
  · refine hP acc _ w1 (hJ _ μ' D _ hD w3) fun b hb => ?_
    by_cases e : b = D
    · rw [e, mset_same]
    · rw [mset_ne e]
      exact w4 b hb e
theorem cons_erase {α : Type} {x : α} : ∀ {l : List α} {j : Nat}, l[j]? = some x → (x :: l.eraseIdx j).Perm l
  | [], _, h => by simp at h
  | a :: l, 0, h => by
    cases h
    exact List.Perm.refl _
  | a :: l, j + 1, h => (List.Perm.swap a x _).trans (List.Perm.cons a (cons_erase (l := l) (j := j) h))
def d_law_part : DOs := fun as μ Q => ∃ (t : Addr) (n : Int) (ss : List Str) (m : Nat), as = [.mut t, .dat (.list (ss.map PyData.str)), .dat (.int (m : Nat))] ∧ TapeAt t n μ ∧ n ≤ 900000 ∧ m ≤ ss.length ∧ ss.length ≤ 30 ∧
  ∀ (as xs : List Str) (μ' : Mu), as.length = m → (as ++ xs).Perm ss → TapeAt t (n + (m : Nat)) μ' → Fr t μ μ' → Q (.dat (.list (as.map PyData.str))) μ'
theorem ascii_ok {n b m : Nat} {s : Str} (h1 : s.length ≤ 20 + n) (h2 : ∀ c ∈ s.cps.toList, c < 128) (hb : 1 ≤ b) : Ok n b m (.str s) :=
  ⟨by simp only [fine, Bool.and_eq_true, List.all_eq_true, decide_eq_true_eq]; exact ⟨h2, h1⟩, hb, Nat.zero_le _⟩
theorem int_ok {n b m : Nat} {i : Int} (h : i.natAbs ≤ ib n) (hb : 1 ≤ b) : Ok n b m (.int i) := ⟨by simp only [fine, decide_eq_true_eq]; exact h, hb, Nat.zero_le _⟩
/-- what one step otherwise may be: leaves a little greater, at most twice as many and some, a level deeper -/
def Bent (n : Nat) (d e : PyData) : Prop := fine (n + 1) e = true ∧ sz e ≤ 2 * sz d + 20 ∧ e.depth ≤ d.depth + 1
end
end K1


namespace K1
open PySem PySem.Spec PyProof.Rows L2 RZ DL
theorem atI_mem {α : Type} {l : List α} {i : Int} (h0 : 0 ≤ i) (h1 : i < l.length) : ∃ e, atI l i = some e ∧ e ∈ l := by
  obtain ⟨j, rfl⟩ : ∃ j : Nat, i = (j : Int) := ⟨i.toNat, by omega⟩
  have hj : j < l.length := by omega
  exact ⟨l[j], atI_nat (List.getElem?_eq_getElem hj), List.getElem_mem hj⟩
theorem cut_front {α : Type} (xs : List α) (i : Nat) : cutL xs none (some (i : Int)) = xs.take i := by
  unfold cutL
  rw [HT.sIx_none, show HT.sIx xs.length xs.length (some (i : Int)) = min i xs.length from HT.sIx_nat xs.length _ i]
  simp [List.take_eq_take_iff]
theorem cut_back {α : Type} (xs : List α) (i : Nat) : cutL xs (some ((i : Int) + 1)) none = xs.drop (i + 1) := by
  unfold cutL
  rw [HT.sIx_none, show HT.sIx xs.length 0 (some ((i : Int) + 1)) = min (i + 1) xs.length from HT.sIx_nat xs.length _ (i + 1)]
  by_cases h : i + 1 ≤ xs.length
  · rw [Nat.min_eq_left h]
    exact List.take_of_length_le (by rw [List.length_drop]; omega)
  · rw [List.drop_of_length_le (by omega), List.drop_of_length_le (by omega)]
    simp
theorem cut_here {α : Type} (xs : List α) (i : Nat) : cutL xs (some (i : Int)) (some ((i : Int) + 1)) = (xs.drop i).take 1 := by
  unfold cutL
  rw [show HT.sIx xs.length 0 (some (i : Int)) = min i xs.length from HT.sIx_nat xs.length _ i, show HT.sIx xs.length xs.length (some ((i : Int) + 1)) = min (i + 1) xs.length from HT.sIx_nat xs.length _ (i + 1)]
  by_cases h : i + 1 ≤ xs.length
  · rw [Nat.min_eq_left h, Nat.min_eq_left (by omega)]
    congr 1
    omega
  · rw [Nat.min_eq_right (by omega : xs.length ≤ i), Nat.min_eq_right (by omega), List.drop_of_length_le (Nat.le_refl _), List.drop_of_length_le (by omega)]
    simp
theorem cut_0 {α : Type} (xs : List α) : cutL xs none (some 1) = xs.take 1 := cut_front xs 1
theorem cut_1 {α : Type} (xs : List α) : cutL xs (some 1) none = xs.drop 1 := cut_back xs 0
theorem cut_map {α β : Type} (f : α → β) (xs : List α) (lo hi : Option Int) : cutL (xs.map f) lo hi = (cutL xs lo hi).map f := by
  unfold cutL
  simp [List.map_take, List.map_drop]
theorem cut_mem {α : Type} {xs : List α} {lo hi : Option Int} {x : α} (h : x ∈ cutL xs lo hi) : x ∈ xs := List.mem_of_mem_drop (List.mem_of_mem_take h)
theorem cut_len2 {α : Type} {xs : List α} (j k : Nat) : (cutL xs (some (j : Nat)) (some ((j : Int) + (k : Nat)))).length ≤ k := by
  unfold cutL
  rw [show HT.sIx xs.length 0 (some (j : Int)) = min j xs.length from HT.sIx_nat xs.length _ j, show HT.sIx xs.length xs.length (some ((j : Int) + (k : Nat))) = min (j + k) xs.length from HT.sIx_nat xs.length _ (j + k), List.length_take, List.length_drop]
  omega
theorem kD_s {z : Str} {k : Key} : (PyData.str z = kD k) = (k = .inr z) := by
  cases k <;> simp [kD, eq_comm]
theorem kD_i {z : Int} {k : Key} : (PyData.int z = kD k) = (k = .inl z) := by
  cases k <;> simp [kD, eq_comm]
end K1


namespace K1
open PySem PySem.Spec PyProof.Rows L2 RZ DL
local macro_rules | `(tactic| walk_at "dl") => `(tactic| simp [and_assoc, mRet, mAnd, mOr, mCall, mCons, mVar, mCls, mNil, mC, oIsi, oIsi2, mNot, startD, mSeq, mIfS, mTOr, mTAnd, mTNot, mTest, mChain, mNext, oA1, oA2, oIB, oII, oII0, mOp, mUn, mAsg, mgName, mgTup, mgCons_c, mgNil_n, zipAs_l, zipAs_t, oSl_l, oSl_t, oSl_s, oSl_r, mPart, mSl, mIf, wipeD, oSign, oSS, oLen, LenD_s, LenD_l, LenD_t, LenD_m, miZ, miS, miT, miL, miE, miR, oEq, oNe, eqD_i, eqD_b, eqD_s, oInT, oIx, ixD_l, ixD_t, ixD_s, ixD_m, ix0, ix1, ix2, ix3, oAbs, oInt, oMax, oMin, mPar, mPar3, mTup, mLst, mLstM, asD, mExpr, itemsD_l, itemsD_t, oNeg, mgSub, mset_same, mIsN, mTIsN, oEqW, eqW_n, eqW_b, eqW_i, eqW_s, non_n, non_b, non_i, non_s, non_l, non_t, miR2, mDNew, mDGet, mDPut, mDisp, mPairs, kD_s, kD_i, isStr, isTup, isLst, isBool, DL.isInt])
section
variable {P : Program} {w : World} {K : PySem.W.Frag} {mg : Str → Option Value} {base : Heap}
/-! ### a heath as the laws keep it -/
structure Hs where
  rest : Int
  names : List Str
  ways : List (Str × Str × Str × Int)
def wayD (q : Str × Str × Str × Int) : PyData := .tuple [.str q.2.1, .str q.2.2.1, .int q.2.2.2]
def wayK (q : Str × Str × Str × Int) : Key × AV := (.inr q.1, .dat (wayD q))
structure HsOk (h : Hs) : Prop where
  rest3 : 3 ≤ h.rest
  rest24 : h.rest ≤ 24
  len1 : 1 ≤ h.names.length
  len8 : h.names.length ≤ 8
  nodup : h.names.Nodup
  rise : sortedS h.names = true
  nok : ∀ s ∈ h.names, nameOk s
  wlen : h.ways.length ≤ 10
  wnodup : (h.ways.map (·.1)).Nodup
  wok : ∀ q ∈ h.ways, nameOk q.1 ∧ q.2.1 ∈ h.names ∧ q.2.2.1 ∈ h.names ∧ q.2.1 ≠ q.2.2.1 ∧ 1 ≤ q.2.2.2 ∧ q.2.2.2 ≤ 6 ∧ 2 * q.2.2.2 + 1 ≤ h.rest
/-- .. none has called, nothing is on its way -/
structure HsAt (h : Hs) (hp wp ap lp : Addr) (μ : Mu) : Prop where
  ex : μ hp = some (.dK [(.inr (Str.ofString "rest"), .dat (.int h.rest)), (.inr (Str.ofString "names"), .dat (.list (h.names.map PyData.str))), (.inr (Str.ofString "ways"), .mut wp), (.inr (Str.ofString "beat"), .dat (.int 0)), (.inr (Str.ofString "air"), .mut ap), (.inr (Str.ofString "lasts"), .mut lp)]) ∧
    μ wp = some (.dK (h.ways.map wayK)) ∧ μ ap = some (.lst []) ∧ μ lp = some (.dK (h.names.map fun s => (.inr s, .dat .none))) ∧ wp ≠ hp ∧ ap ≠ hp ∧ lp ≠ hp ∧ wp ≠ ap ∧ wp ≠ lp ∧ ap ≠ lp
/-- what stood stays, but the tape -/
def Kp (t : Addr) (μ μ' : Mu) : Prop := ∀ b, b ≠ t → μ b ≠ none → μ' b = μ b
theorem rangeD_get1 {lo : Int} {n i : Nat} {d : PyData} (h : (rangeD lo n)[i]? = some d) : d = .int (lo + (i : Nat)) ∧ i < n := by
  have hi : i < n := by
    have := (List.getElem?_eq_some_iff.mp h).1
    simpa [rangeD] using this
  unfold rangeD at h
  rw [List.getElem?_map, List.getElem?_range hi] at h
  cases h
  exact ⟨rfl, hi⟩
def d_law_begun : DOs := fun as μ Q => ∃ (t : Addr) (n mo : Int), as = [.mut t, .dat (.int mo)] ∧ 1 ≤ mo ∧ mo ≤ 8 ∧ TapeAt t n μ ∧ n ≤ 800000 ∧ ∀ h hp wp ap lp μ', HsOk h → HsAt h hp wp ap lp μ' → hp ≠ t → μ hp = none → μ wp = none → μ ap = none → μ lp = none → TapeAt t (n + 80) μ' → Kp t μ μ' → Q (.mut hp) μ'
def pairD (e : Str × Str) : PyData := .tuple [.str e.1, .str e.2]
theorem for_gen {MI : DIx} {G : DGx} {M : DSx} {D : DEnds} {δ : Dl} {μ : Mu} (good : List PyData → Mu → Prop) (h : ∀ C : List PyData → Mu → Prop, (∀ ds μ', good ds μ' → C ds μ') → MI δ μ C)
    (h2 : ∀ ds μ1, good ds μ1 → ∃ W : Nat → Dl → Mu → Prop, W 0 δ μ1 ∧ (∀ i d δ' μ', ds[i]? = some d → W i δ' μ' → G (.dat d) δ' μ' fun δ2 μ2 => M { D with nx := W (i + 1), ct := W (i + 1), bk := D.nx } δ2 μ2) ∧ ∀ δ' μ', W ds.length δ' μ' → D.nx δ' μ') : mFor MI G M D δ μ := h _ h2
theorem at_str {ys : List Str} {j : Nat} (h : j < ys.length) : atI (ys.map PyData.str) (j : Int) = some (.str ys[j]) := atI_nat (by rw [List.getElem?_map, List.getElem?_eq_getElem h]; rfl)
theorem valA_none : ∀ {kvs : List (Key × AV)} {k : Key}, k ∉ kvs.map (·.1) → valA kvs k = none
  | [], _, _ => rfl
  | q :: r, k, h => by
    have h1 : ¬ q.1 = k := fun e => h (by rw [List.map_cons, e]; exact List.mem_cons_self)
    rw [valA_neg h1]
    exact valA_none fun z => h (by rw [List.map_cons]; exact List.mem_cons_of_mem _ z)
theorem putA_new {kvs : List (Key × AV)} {k : Key} {a : AV} (h : k ∉ kvs.map (·.1)) : putA kvs k a = kvs ++ [(k, a)] := by
  unfold putA
  rw [valA_none h]
  rfl
theorem fold_nodup : ∀ {more acc : List (Key × AV)}, ((acc ++ more).map (·.1)).Nodup → more.foldl (fun acc q => putA acc q.1 q.2) acc = acc ++ more
  | [], acc, _ => by simp
  | q :: r, acc, h => by
    have h1 : q.1 ∉ acc.map (·.1) := by
      rw [List.map_append, List.map_cons, List.nodup_append] at h
      intro z
      exact h.2.2 _ z _ List.mem_cons_self rfl
    show r.foldl _ (putA acc q.1 q.2) = _
    rw [putA_new h1, fold_nodup (acc := acc ++ [(q.1, q.2)]) (by rw [List.append_assoc]; exact h), List.append_assoc]
    rfl
theorem merge_nodup {kvs : List (Key × AV)} (h : (kvs.map (·.1)).Nodup) : mergeA kvs = kvs := by
  have := fold_nodup (more := kvs) (acc := []) (by simpa using h)
  rw [List.nil_append] at this
  exact this
def baseK (rest : Int) (ys : List Str) (a2 a3 : Addr) : List (Key × AV) := [(.inr (Str.ofString "rest"), .dat (.int rest)), (.inr (Str.ofString "names"), .dat (.list (ys.map PyData.str))), (.inr (Str.ofString "ways"), .mut a2), (.inr (Str.ofString "beat"), .dat (.int 0)), (.inr (Str.ofString "air"), .mut a3)]
theorem val_ways {rest : Int} {ys : List Str} {a2 a3 : Addr} : valA (baseK rest ys a2 a3) (.inr (Str.ofString "ways")) = some (.mut a2) := by
  have n1 : ¬ (Sum.inr (Str.ofString "rest") : Key) = .inr (Str.ofString "ways") := by decide +kernel
  have n2 : ¬ (Sum.inr (Str.ofString "names") : Key) = .inr (Str.ofString "ways") := by decide +kernel
  unfold baseK
  rw [valA_neg n1, valA_neg n2, valA_pos rfl]
theorem lasts_new {rest : Int} {ys : List Str} {a2 a3 : Addr} : (.inr (Str.ofString "lasts") : Key) ∉ (baseK rest ys a2 a3).map (·.1) := by
  intro h
  have h' : (.inr (Str.ofString "lasts") : Key) ∈ ([.inr (Str.ofString "rest"), .inr (Str.ofString "names"), .inr (Str.ofString "ways"), .inr (Str.ofString "beat"), .inr (Str.ofString "air")] : List Key) := h
  simp only [List.mem_cons, List.not_mem_nil, or_false] at h'
  rcases h' with h | h | h | h | h <;> exact absurd h (by decide +kernel)
set_option maxHeartbeats 2000000 in
end
end K1


namespace K1
open PySem PySem.Spec PyProof.Rows L2 RZ DL
local macro_rules | `(tactic| walk_at "dl") => `(tactic| simp [and_assoc, mRet, mAnd, mOr, mCall, mCons, mVar, mCls, mNil, mC, oIsi, oIsi2, mNot, startD, mSeq, mIfS, mTOr, mTAnd, mTNot, mTest, mChain, mNext, oA1, oA2, oIB, oII, oII0, mOp, mUn, mAsg, mgName, mgTup, mgCons_c, mgNil_n, zipAs_l, zipAs_t, oSl_l, oSl_t, oSl_s, oSl_r, mPart, mSl, mIf, wipeD, oSign, oSS, oLen, LenD_s, LenD_l, LenD_t, LenD_m, miZ, miS, miT, miL, miE, miR, oEq, oNe, eqD_i, eqD_b, eqD_s, oInT, oIx, ixD_l, ixD_t, ixD_s, ixD_m, ix0, ix1, ix2, ix3, oAbs, oInt, oMax, oMin, mPar, mPar3, mTup, mLst, mLstM, asD, mExpr, itemsD_l, itemsD_t, oNeg, mgSub, mset_same, mIsN, mTIsN, oEqW, eqW_n, eqW_b, eqW_i, eqW_s, non_n, non_b, non_i, non_s, non_l, non_t, miR2, mDNew, mDGet, mDPut, mDisp, mPairs, kD_s, kD_i, isStr, isTup, isLst, isBool, DL.isInt])
section
variable {P : Program} {w : World} {K : PySem.W.Frag} {mg : Str → Option Value} {base : Heap}
def rowD (q : Str × Str × Str × Int) : PyData := .tuple [.str q.1, .str q.2.1, .str q.2.2.1, .int q.2.2.2]
def planD (rest : Int) (names : List Str) (qs : List (Str × Str × Str × Int)) : PyData := .tuple [.int rest, .tuple (names.map PyData.str), .tuple (qs.map rowD)]
theorem perm_lift {α β : Type} (f : α → β) : ∀ {zs : List β} {l : List α}, zs.Perm (l.map f) → ∃ qs : List α, qs.Perm l ∧ qs.map f = zs
  | [], l, h => by
    have := h.length_eq
    rw [List.length_map] at this
    have e : l = [] := List.length_eq_zero_iff.mp this.symm
    exact ⟨[], by rw [e], rfl⟩
  | z :: zs, l, h => by
    obtain ⟨a, ha, rfl⟩ := List.mem_map.mp (h.mem_iff.mp List.mem_cons_self)
    obtain ⟨s, t, rfl⟩ := List.append_of_mem ha
    rw [List.map_append, List.map_cons] at h
    have h2 : zs.Perm ((s ++ t).map f) := by
      rw [List.map_append]
      exact List.Perm.cons_inv (h.trans List.perm_middle)
    obtain ⟨qs, h3, h4⟩ := perm_lift f h2
    exact ⟨a :: qs, (List.Perm.cons a h3).trans List.perm_middle.symm, by rw [List.map_cons, h4]⟩
theorem lc_gen {MI : DIx} {G : DGx} {MT : DTx} {ME : DEx} {vs : List Nat} {δ : Dl} {μ : Mu} {P : DV} (good : List PyData → Mu → Prop) (h : ∀ C : List PyData → Mu → Prop, (∀ ds μ', good ds μ' → C ds μ') → MI δ μ C)
    (h2 : ∀ ds μ1, good ds μ1 → mLc (fun _ _ C => C ds μ1) G MT ME vs δ μ P) : mLc MI G MT ME vs δ μ P := h _ h2
theorem valA_ways : ∀ {qs : List (Str × Str × Str × Int)} {q : Str × Str × Str × Int}, (qs.map (·.1)).Nodup → q ∈ qs → valA (qs.map wayK) (.inr q.1) = some (.dat (wayD q))
  | p :: r, q, hn, hq => by
    rw [List.map_cons, List.nodup_cons] at hn
    rw [List.map_cons]
    rcases List.mem_cons.mp hq with rfl | h
    · exact valA_pos rfl
    · have ne : ¬ (wayK p).1 = .inr q.1 := fun e => hn.1 (by
        have : p.1 = q.1 := Sum.inr.inj e
        rw [this]
        exact List.mem_map.mpr ⟨q, h, rfl⟩)
      rw [valA_neg ne]
      exact valA_ways hn.2 h
end
end K1


namespace K1
open PySem PySem.Spec PyProof.Rows L2 RZ DL
local macro_rules | `(tactic| walk_at "dl") => `(tactic| simp [and_assoc, mRet, mAnd, mOr, mCall, mCons, mVar, mCls, mNil, mC, oIsi, oIsi2, mNot, startD, mSeq, mIfS, mTOr, mTAnd, mTNot, mTest, mChain, mNext, oA1, oA2, oIB, oII, oII0, mOp, mUn, mAsg, mgName, mgTup, mgCons_c, mgNil_n, zipAs_l, zipAs_t, oSl_l, oSl_t, oSl_s, oSl_r, mPart, mSl, mIf, wipeD, oSign, oSS, oLen, LenD_s, LenD_l, LenD_t, LenD_m, miZ, miS, miT, miL, miE, miR, oEq, oNe, eqD_i, eqD_b, eqD_s, oInT, oIx, ixD_l, ixD_t, ixD_s, ixD_m, ix0, ix1, ix2, ix3, oAbs, oInt, oMax, oMin, mPar, mPar3, mTup, mLst, mLstM, asD, mExpr, itemsD_l, itemsD_t, oNeg, mgSub, mset_same, mIsN, mTIsN, oEqW, eqW_n, eqW_b, eqW_i, eqW_s, non_n, non_b, non_i, non_s, non_l, non_t, miR2, mDNew, mDGet, mDPut, mDisp, mPairs, kD_s, kD_i, isStr, isTup, isLst, isBool, DL.isInt])
section
variable {P : Program} {w : World} {K : PySem.W.Frag} {mg : Str → Option Value} {base : Heap}
theorem triv_prm {x : Str} {st : Stmt} {ps : List Str} {n k : Nat} {f : Addr} {fd : FuncData} (D : DefAt K mg x st ps f fd) : Prm P w K mg base k x n (fun _ _ _ => False) :=
  ⟨⟨f, fd, ps, ⟨fun vs H Q h => h.2.elim fun _ h => h.elim fun _ h => h.elim fun _ h => h.2.2.1.elim, fun A out s H args us vs Q _ _ _ _ _ h => h.2.elim fun _ h => h.elim fun _ h => h.elim fun _ h => h.2.2.1.elim⟩, D.at_, D.fn.kp, D.bd, D.nm, D.lk⟩, fun _ _ _ h => h.elim⟩
theorem zip_self {ds : List PyData} {d : PyData} (h : d ∈ zipD ds ds) : ∃ x, x ∈ ds ∧ d = .tuple [x, x] := by
  unfold zipD at h
  induction ds with
  | nil => simp at h
  | cons a r ih =>
    rw [List.zipWith_cons_cons] at h
    rcases List.mem_cons.mp h with e | e
    · exact ⟨a, List.mem_cons_self, e⟩
    · obtain ⟨x, h1, h2⟩ := ih e
      exact ⟨x, List.mem_cons_of_mem _ h1, h2⟩
theorem all_true {α : Type} : ∀ l : List α, (l.all fun _ => true) = true
  | [] => rfl
  | _ :: l => all_true l
theorem depth_it {d : PyData} {ds : List PyData} (e : itemsD d = some ds) : d.depth = PyData.depthAll ds + 1 := by
  cases d <;> simp [itemsD] at e <;> subst e <;> simp [PyData.depth] <;> omega
/-- data without dicts -/
def plainD (k : Nat) (d : PyData) : Prop := Ok 3 1000000 k d
def d_law_same (k : Nat) : DOs := fun as μ Q => ∃ d, as = [.dat d, .dat d] ∧ k ≤ 8 ∧ plainD k d ∧ Q (.dat (.bool true)) μ
theorem step_same (T : Txt K mg) (k : Nat) (dp : DOs) (hdp : k = 0 ∨ ∃ j, k = j + 1 ∧ dp = d_law_same j) (p_law_same : Prm P w K mg base (k + 2) "_law_same" 2 dp) {f : Addr} {fd : FuncData} (D : DefAt K mg "_law_same" s_law_same ["found", "due"] f fd) : Prm P w K mg base (k + 2 + 1) "_law_same" 2 (d_law_same k) := by
  refine prm_of D sc_law_same rfl (fun as μ Q ⟨d, e, _⟩ => by rw [e]; rfl) fun cdv A out s H hr hg => ⟨_, _,
(db_cons (ds_if (dt_val (de_isi2 (e := .Name "due" { line := 0, col := 0, endLine := 0, endCol := 0 }) (de_var (pv 1)) k_lst k_tup (pe_callB call_isiT (by rfl) T.n_isinstance (by decide +kernel) (pa_cons (DE.pe (de_var (pv 1))) (pa_cons (pe_tup (pa_cons (pe_bltn (v := .ty "list") (by rfl) T.n_list (by decide +kernel) rfl) (pa_cons (pe_bltn (v := .ty "tuple") (by rfl) T.n_tuple (by decide +kernel) rfl) pa_nil))) pa_nil))))) (db_cons (ds_if (DW.dt (dw_or (dt_cmp op_ne so_ne (de_callB call_isi (so_isi k_lst) (by rfl) T.n_isinstance (by decide +kernel) (da_cons (de_var (pv 0)) (da_cons (de_cls (pe_bltn (v := .ty "list") (by rfl) T.n_list (by decide +kernel) rfl)) da_nil))) (de_callB call_isi (so_isi k_lst) (by rfl) T.n_isinstance (by decide +kernel) (da_cons (de_var (pv 1)) (da_cons (de_cls (pe_bltn (v := .ty "list") (by rfl) T.n_list (by decide +kernel) rfl)) da_nil)))) (dw_or1 (dt_cmp op_ne so_ne (de_callB call_isi (so_isi k_tup) (by rfl) T.n_isinstance (by decide +kernel) (da_cons (de_var (pv 0)) (da_cons (de_cls (pe_bltn (v := .ty "tuple") (by rfl) T.n_tuple (by decide +kernel) rfl)) da_nil))) (de_callB call_isi (so_isi k_tup) (by rfl) T.n_isinstance (by decide +kernel) (da_cons (de_var (pv 1)) (da_cons (de_cls (pe_bltn (v := .ty "tuple") (by rfl) T.n_tuple (by decide +kernel) rfl)) da_nil))))))) (db_one (ds_ret de_bl)) db_nil)
    (db_one (ds_ret (de_and (de_cmp op_eq so_eqW (de_callB call_len (so_A1 so_len) (by rfl) T.n_len (by decide +kernel) (da_cons (de_var (pv 0)) da_nil)) (de_callB call_len (so_A1 so_len) (by rfl) T.n_len (by decide +kernel) (da_cons (de_var (pv 1)) da_nil))) (de_one (de_callB (cr_all rfl) (so_A1 so_all) (by rfl) T.n_all (by decide +kernel) (da_cons (de_lc (own := [("one", 2), ("other", 3)]) rfl sc_law_same.nd (di_zipE (by rfl) T.n_zip (da_cons (de_var (pv 0)) (da_cons (de_var (pv 1)) da_nil))) (blkOk_by (N := N_law_same) (sc := defScope s_law_same) (by decide +kernel)) (fun _ _ _ _ _ => (dg_tup (K := K) (n := 2) rfl rfl (dgs_cons (dg_name (pg_name (i := 2) sc_law_same.nd rfl (by first | exact Or.inl rfl | exact Or.inr rfl)) (by decide)) (dgs_cons (dg_name (pg_name (i := 3) sc_law_same.nd rfl (by first | exact Or.inl rfl | exact Or.inr rfl)) (by decide)) dgs_nil)))) (fun _ _ _ _ _ => dts_nil) (fun _ _ _ _ _ => (de_callC p_law_same rfl rfl rfl rfl rfl (hr.mono (by omega)) hg (by rfl) (da_cons (de_var (pv 2)) (da_cons (de_var (pv 3)) da_nil))))) da_nil))))))) db_nil)
    (db_cons (ds_if (DW.dt (dw_or (dt_isN (de_var (pv 1))) (dw_or1 (dt_val (de_isi2 (e := .Name "due" { line := 0, col := 0, endLine := 0, endCol := 0 }) (de_var (pv 1)) k_str k_bool (pe_callB call_isiT (by rfl) T.n_isinstance (by decide +kernel) (pa_cons (DE.pe (de_var (pv 1))) (pa_cons (pe_tup (pa_cons (pe_bltn (v := .ty "str") (by rfl) T.n_str (by decide +kernel) rfl) (pa_cons (pe_bltn (v := .ty "bool") (by rfl) T.n_bool (by decide +kernel) rfl) pa_nil))) pa_nil)))))))) (db_one (ds_ret (de_and (de_cmp op_eq so_eqW (de_callB call_isi (so_isi k_bool) (by rfl) T.n_isinstance (by decide +kernel) (da_cons (de_var (pv 0)) (da_cons (de_cls (pe_bltn (v := .ty "bool") (by rfl) T.n_bool (by decide +kernel) rfl)) da_nil))) (de_callB call_isi (so_isi k_bool) (by rfl) T.n_isinstance (by decide +kernel) (da_cons (de_var (pv 1)) (da_cons (de_cls (pe_bltn (v := .ty "bool") (by rfl) T.n_bool (by decide +kernel) rfl)) da_nil)))) (de_one (de_cmp op_eq so_eqW (de_var (pv 0)) (de_var (pv 1))))))) db_nil)
    (db_one (ds_ret (de_and (de_callB call_isi (so_isi k_int) (by rfl) T.n_isinstance (by decide +kernel) (da_cons (de_var (pv 0)) (da_cons (de_cls (pe_bltn (v := .ty "int") (by rfl) T.n_int (by decide +kernel) rfl)) da_nil))) (de_and (de_not (de_callB call_isi (so_isi k_bool) (by rfl) T.n_isinstance (by decide +kernel) (da_cons (de_var (pv 0)) (da_cons (de_cls (pe_bltn (v := .ty "bool") (by rfl) T.n_bool (by decide +kernel) rfl)) da_nil)))) (de_one (de_cmp op_eq so_eqW (de_var (pv 0)) (de_var (pv 1))))))))))
    , fun as μ Q ⟨d, e, hk8, hd, q⟩ => ?_⟩
  subst e
  have hsl : sizeLine = 16777216 := sizeLine_eq
  cases d with
  | list ds =>
    have hk0 : k ≠ 0 := fun e => by
      have := hd.dp
      rw [depth_it (rfl : itemsD (.list ds) = some ds)] at this
      omega
    have hzl : (zipD ds ds).length ≤ sizeLine := by
      have h1 := hd.items_len rfl
      have : (zipD ds ds).length = ds.length := by simp [zipD]
      omega
    walk_at "dl"
    refine lc_pure (zipD ds ds) (fun _ => .bool true) (fun R r => by walk_at "dl"; exact r) hzl (fun d' hd' μ' R r => ?_) (all_map _ (fun _ => true) _ _ (by rw [all_true]; exact q))
    obtain ⟨x, hx, rfl⟩ := zip_self hd'
    walk_at "dl"
    rcases hdp with h | ⟨j, rfl, rfl⟩
    · exact absurd h hk0
    · obtain ⟨h1, h2⟩ := hd.item (rfl : itemsD (.list ds) = some ds) hx
      exact ⟨x, rfl, by omega, ⟨h1.fn, h1.sz, by omega⟩, r⟩
  | tuple ds =>
    have hk0 : k ≠ 0 := fun e => by
      have := hd.dp
      rw [depth_it (rfl : itemsD (.tuple ds) = some ds)] at this
      omega
    have hzl : (zipD ds ds).length ≤ sizeLine := by
      have h1 := hd.items_len rfl
      have : (zipD ds ds).length = ds.length := by simp [zipD]
      omega
    walk_at "dl"
    refine lc_pure (zipD ds ds) (fun _ => .bool true) (fun R r => by walk_at "dl"; exact r) hzl (fun d' hd' μ' R r => ?_) (all_map _ (fun _ => true) _ _ (by rw [all_true]; exact q))
    obtain ⟨x, hx, rfl⟩ := zip_self hd'
    walk_at "dl"
    rcases hdp with h | ⟨j, rfl, rfl⟩
    · exact absurd h hk0
    · obtain ⟨h1, h2⟩ := hd.item (rfl : itemsD (.tuple ds) = some ds) hx
      exact ⟨x, rfl, by omega, ⟨h1.fn, h1.sz, by omega⟩, r⟩
  | dict kvs => exact absurd hd.fn (by simp [fine])
  | _ =>
    walk_at "dl"
    exact q
theorem ok_law_same (T : Txt K mg) {f : Addr} {fd : FuncData} (D : DefAt K mg "_law_same" s_law_same ["found", "due"] f fd) : ∀ k, Prm P w K mg base (k + 2 + 1) "_law_same" 2 (d_law_same k)
  | 0 => step_same T 0 _ (.inl rfl) (triv_prm D) D
  | k + 1 => step_same T (k + 1) _ (.inr ⟨k, rfl, rfl⟩) (ok_law_same T D k) D
end
end K1


set_option maxHeartbeats 4000000
namespace K1
open PySem PySem.Spec PyProof.Rows L2 RZ DL
local macro_rules | `(tactic| walk_at "dl") => `(tactic| simp [and_assoc, mRet, mAnd, mOr, mCall, mCons, mVar, mCls, mNil, mC, oIsi, oIsi2, mNot, startD, mSeq, mIfS, mTOr, mTAnd, mTNot, mTest, mChain, mNext, oA1, oA2, oIB, oII, oII0, mOp, mUn, mAsg, mgName, mgTup, mgCons_c, mgNil_n, zipAs_l, zipAs_t, oSl_l, oSl_t, oSl_s, oSl_r, mPart, mSl, mIf, wipeD, oSign, oSS, oLen, LenD_s, LenD_l, LenD_t, LenD_m, miZ, miS, miT, miL, miE, miR, oEq, oNe, eqD_i, eqD_b, eqD_s, oInT, oIx, ixD_l, ixD_t, ixD_s, ixD_m, ix0, ix1, ix2, ix3, oAbs, oInt, oMax, oMin, mPar, mPar3, mTup, mLst, mLstM, asD, mExpr, itemsD_l, itemsD_t, oNeg, mgSub, mset_same, mIsN, mDrp, mTIsN, oEqW, eqW_n, eqW_b, eqW_i, eqW_s, non_n, non_b, non_i, non_s, non_l, non_t, miR2, mDNew, mDGet, mDPut, mDisp, mPairs, kD_s, kD_i, isStr, isTup, isLst, isBool, DL.isInt, mAppend, mDPop, oNeE, miM, DL.HoldL, mDIn, mDictZip, oRepU, mListZip, oDictP, mCallP, pick])
section
variable {P : Program} {w : World} {K : PySem.W.Frag} {mg : Str → Option Value} {base : Heap}
/-! ### a heath as it goes -/
def lastD : Option Int → PyData
  | none => .none
  | some l => .int l
def lastK (h : Hm) : List (Key × AV) := h.names.map fun s => (.inr s, .dat (lastD (h.last s)))
def hmK (h : Hm) (wp ap lp : Addr) : List (Key × AV) := [(.inr (Str.ofString "rest"), .dat (.int h.rest)), (.inr (Str.ofString "names"), .dat (.list (h.names.map PyData.str))), (.inr (Str.ofString "ways"), .mut wp), (.inr (Str.ofString "beat"), .dat (.int h.beat)), (.inr (Str.ofString "air"), .mut ap), (.inr (Str.ofString "lasts"), .mut lp)]
/-- F: what stands besides -/
structure HmC (h : Hm) (hp wp ap lp : Addr) (F μ : Mu) : Prop where
  hh : μ hp = some (.dK (hmK h wp ap lp))
  w : μ wp = some (.dK (h.ways.map wayK))
  a : μ ap = some (.lst ((h.air.map rowD3).map AV.dat))
  l : μ lp = some (.dK (lastK h))
  hw : hp ≠ wp
  ha : hp ≠ ap
  hl : hp ≠ lp
  wa : wp ≠ ap
  wl : wp ≠ lp
  al : ap ≠ lp
  fh : F hp = none
  fw : F wp = none
  fa : F ap = none
  fl : F lp = none
  fr : ∀ b, F b ≠ none → μ b = F b
def HmAt (h : Hm) (hp : Addr) (F μ : Mu) : Prop := ∃ wp ap lp, HmC h hp wp ap lp F μ
theorem HmC.inj {h : Hm} {hp wp ap lp wp' ap' lp' : Addr} {F F' μ : Mu} (C : HmC h hp wp ap lp F μ) (C' : HmC h hp wp' ap' lp' F' μ) : wp' = wp ∧ ap' = ap ∧ lp' = lp := by
  have e := Option.some.inj (C'.hh.symm.trans C.hh)
  simp only [hmK, MO.dK.injEq, List.cons.injEq, Prod.mk.injEq, AV.mut.injEq, true_and, and_true] at e
  exact e
/-- .. the ways' cell the same -/
def HmTo (h : Hm) (hp : Addr) (F μ : Mu) (h' : Hm) (μ' : Mu) : Prop := ∀ wp ap lp, HmC h hp wp ap lp F μ → ∃ ap' lp', HmC h' hp wp ap' lp' F μ'
theorem HmC.setL {h h' : Hm} {hp wp ap lp : Addr} {F μ : Mu} (C : HmC h hp wp ap lp F μ) (e1 : hmK h' wp ap lp = hmK h wp ap lp) (e2 : h'.ways = h.ways) (e3 : h'.air = h.air) : HmC h' hp wp ap lp F (mset μ lp (some (.dK (lastK h')))) :=
  ⟨by rw [mset_ne C.hl, e1]; exact C.hh, by rw [mset_ne C.wl, e2]; exact C.w, by rw [mset_ne C.al, e3]; exact C.a, mset_same, C.hw, C.ha, C.hl, C.wa, C.wl, C.al, C.fh, C.fw, C.fa, C.fl, fun b hb => by
    rw [mset_ne fun z => hb (by rw [z]; exact C.fl)]
    exact C.fr b hb⟩
theorem HmC.setA {h h' : Hm} {hp wp ap lp : Addr} {F μ : Mu} (C : HmC h hp wp ap lp F μ) (e1 : hmK h' wp ap lp = hmK h wp ap lp) (e2 : h'.ways = h.ways) (e3 : lastK h' = lastK h) : HmC h' hp wp ap lp F (mset μ ap (some (.lst ((h'.air.map rowD3).map AV.dat)))) :=
  ⟨by rw [mset_ne C.ha, e1]; exact C.hh, by rw [mset_ne C.wa, e2]; exact C.w, mset_same, by rw [mset_ne C.al.symm, e3]; exact C.l, C.hw, C.ha, C.hl, C.wa, C.wl, C.al, C.fh, C.fw, C.fa, C.fl, fun b hb => by
    rw [mset_ne fun z => hb (by rw [z]; exact C.fa)]
    exact C.fr b hb⟩
theorem k_rest {h : Hm} {wp ap lp : Addr} : valA (hmK h wp ap lp) (.inr (Str.ofString "rest")) = some (.dat (.int h.rest)) := valA_pos rfl
theorem k_names {h : Hm} {wp ap lp : Addr} : valA (hmK h wp ap lp) (.inr (Str.ofString "names")) = some (.dat (.list (h.names.map PyData.str))) := (valA_neg (show ¬ (Sum.inr (Str.ofString "rest") : Key) = .inr (Str.ofString "names") by decide +kernel)).trans (valA_pos rfl)
theorem k_ways {h : Hm} {wp ap lp : Addr} : valA (hmK h wp ap lp) (.inr (Str.ofString "ways")) = some (.mut wp) := (valA_neg (show ¬ (Sum.inr (Str.ofString "rest") : Key) = .inr (Str.ofString "ways") by decide +kernel)).trans ((valA_neg (show ¬ (Sum.inr (Str.ofString "names") : Key) = .inr (Str.ofString "ways") by decide +kernel)).trans (valA_pos rfl))
theorem k_beat {h : Hm} {wp ap lp : Addr} : valA (hmK h wp ap lp) (.inr (Str.ofString "beat")) = some (.dat (.int h.beat)) := (valA_neg (show ¬ (Sum.inr (Str.ofString "rest") : Key) = .inr (Str.ofString "beat") by decide +kernel)).trans ((valA_neg (show ¬ (Sum.inr (Str.ofString "names") : Key) = .inr (Str.ofString "beat") by decide +kernel)).trans ((valA_neg (show ¬ (Sum.inr (Str.ofString "ways") : Key) = .inr (Str.ofString "beat") by decide +kernel)).trans (valA_pos rfl)))
theorem k_air {h : Hm} {wp ap lp : Addr} : valA (hmK h wp ap lp) (.inr (Str.ofString "air")) = some (.mut ap) := (valA_neg (show ¬ (Sum.inr (Str.ofString "rest") : Key) = .inr (Str.ofString "air") by decide +kernel)).trans ((valA_neg (show ¬ (Sum.inr (Str.ofString "names") : Key) = .inr (Str.ofString "air") by decide +kernel)).trans ((valA_neg (show ¬ (Sum.inr (Str.ofString "ways") : Key) = .inr (Str.ofString "air") by decide +kernel)).trans ((valA_neg (show ¬ (Sum.inr (Str.ofString "beat") : Key) = .inr (Str.ofString "air") by decide +kernel)).trans (valA_pos rfl))))
theorem k_lasts {h : Hm} {wp ap lp : Addr} : valA (hmK h wp ap lp) (.inr (Str.ofString "lasts")) = some (.mut lp) := (valA_neg (show ¬ (Sum.inr (Str.ofString "rest") : Key) = .inr (Str.ofString "lasts") by decide +kernel)).trans ((valA_neg (show ¬ (Sum.inr (Str.ofString "names") : Key) = .inr (Str.ofString "lasts") by decide +kernel)).trans ((valA_neg (show ¬ (Sum.inr (Str.ofString "ways") : Key) = .inr (Str.ofString "lasts") by decide +kernel)).trans ((valA_neg (show ¬ (Sum.inr (Str.ofString "beat") : Key) = .inr (Str.ofString "lasts") by decide +kernel)).trans ((valA_neg (show ¬ (Sum.inr (Str.ofString "air") : Key) = .inr (Str.ofString "lasts") by decide +kernel)).trans (valA_pos rfl)))))
theorem put_beat {h : Hm} {wp ap lp : Addr} {b : Int} : putA (hmK h wp ap lp) (.inr (Str.ofString "beat")) (.dat (.int b)) = hmK { h with beat := b } wp ap lp := by
  unfold putA
  rw [k_beat]
  rfl
theorem put_air {h : Hm} {wp ap lp ap' : Addr} : putA (hmK h wp ap lp) (.inr (Str.ofString "air")) (.mut ap') = hmK h wp ap' lp := by
  unfold putA
  rw [k_air]
  rfl
theorem valA_map {α : Type} {f : α → Str} {g : α → AV} : ∀ {l : List α} {c : α}, (l.map f).Nodup → c ∈ l → valA (l.map fun s => ((.inr (f s), g s) : Key × AV)) (.inr (f c)) = some (g c)
  | p :: r, c, hn, h => by
    rw [List.map_cons, List.nodup_cons] at hn
    rw [List.map_cons]
    rcases List.mem_cons.mp h with rfl | h
    · exact valA_pos rfl
    · refine (valA_neg fun e => hn.1 ?_).trans (valA_map hn.2 h)
      have : f p = f c := Sum.inr.inj e
      rw [this]
      exact List.mem_map.mpr ⟨c, h, rfl⟩
theorem k_last {h : Hm} {c : Str} (hn : h.names.Nodup) (hc : c ∈ h.names) : valA (lastK h) (.inr c) = some (.dat (lastD (h.last c))) := valA_map (f := fun s => s) (g := fun s => .dat (lastD (h.last s))) (by simpa using hn) hc
theorem put_last {h : Hm} {c : Str} {l : Int} (hn : h.names.Nodup) (hc : c ∈ h.names) : putA (lastK h) (.inr c) (.dat (.int l)) = lastK { h with last := fun s => if s = c then some l else h.last s } := by
  unfold putA
  rw [k_last hn hc]
  simp only [Option.isSome_some, if_true, setA, lastK, List.map_map]
  refine List.map_congr_left fun s hs => ?_
  by_cases e : s = c
  · subst e
    simp [lastD]
  · have : ¬ (Sum.inr s : Key) = .inr c := fun z => e (Sum.inr.inj z)
    simp [e, this]
theorem isNon_last {o : Option Int} : isNon (lastD o) = decide (o = none) := by cases o <;> rfl
theorem fr_some {b r l : Int} : frB b r (some l) = if b < l + r then l + r else b := by
  show max b (l + r) = _
  split <;> omega
def d_law_free : DOs := fun as μ Q => ∃ h hp F c, as = [.mut hp, .dat (.str c)] ∧ HmAt h hp F μ ∧ h.names.Nodup ∧ c ∈ h.names ∧ Q (.dat (.int (frB h.beat h.rest (h.last c)))) μ
theorem nm_fine {s : Str} (h : nmOk s) : fine 0 (.str s) = true := by
  simp only [fine, Bool.and_eq_true, List.all_eq_true, decide_eq_true_eq]
  exact ⟨h.2, by have := h.1; omega⟩
theorem nm_shaped {s : Str} (h : nmOk s) : SeqAt.shaped (.str s) = true := fine_shaped (nm_fine h) (by simp [PyData.depth])
theorem nm_shaped2 {a b : Str} (h : nmOk a) (h2 : nmOk b) : SeqAt.shaped (.list [.str a, .str b]) = true := fine_shaped (n := 0) (by simp only [fine, fineAll, Bool.and_eq_true]; exact ⟨by simpa [fine] using nm_fine h, by simpa [fine] using nm_fine h2, trivial⟩) (by simp [PyData.depth, PyData.depthAll])
theorem memD_2 {a b c : Str} : memD [.str a, .str b] (.str c) = decide (c = a ∨ c = b) := by
  unfold memD
  simp [PyData.eqv]
  rw [Bool.eq_iff_iff, Bool.or_eq_true, Bool.or_eq_true, beq_iff_eq, beq_iff_eq, decide_eq_true_eq, decide_eq_true_eq]
  exact ⟨fun h => h.imp Eq.symm Eq.symm, fun h => h.imp Eq.symm Eq.symm⟩
theorem sends_app {a b : List Way} {x y w : Str} {β : Int} : sends (a ++ b) x y w β ↔ sends a x y w β ∨ sends b x y w β := by
  constructor
  · rintro ⟨p, h1, h2⟩
    rcases List.mem_append.mp h1 with z | z
    · exact .inl ⟨p, z, h2⟩
    · exact .inr ⟨p, z, h2⟩
  · rintro (⟨p, h1, h2⟩ | ⟨p, h1, h2⟩)
    · exact ⟨p, List.mem_append.mpr (.inl h1), h2⟩
    · exact ⟨p, List.mem_append.mpr (.inr h1), h2⟩
theorem sends_one {q : Way} {x y w : Str} {β : Int} : sends [q] x y w β ↔ q.1 = w ∧ q.2.2.2 = β ∧ ((q.2.1 = x ∧ q.2.2.1 = y) ∨ (q.2.2.1 = x ∧ q.2.1 = y)) := by
  constructor
  · rintro ⟨p, h1, h2⟩
    rw [List.mem_singleton.mp h1] at h2
    exact h2
  · intro h
    exact ⟨q, List.mem_singleton.mpr rfl, h⟩
def d_law_called : DOs := fun as μ Q => ∃ h hp F c, as = [.mut hp, .dat (.str c)] ∧ HmAt h hp F μ ∧ h.Ok ∧ c ∈ h.names ∧ h.free c ∧ ∀ h' μ', CalledTo h c h' → HmAt h' hp F μ' → HmTo h hp F μ h' μ' → Q (.dat .none) μ'
end
end K1


set_option maxHeartbeats 4000000
namespace K1
open PySem PySem.Spec PyProof.Rows L2 RZ DL
local macro_rules | `(tactic| walk_at "dl") => `(tactic| simp [and_assoc, mRet, mAnd, mOr, mCall, mCons, mVar, mCls, mNil, mC, oIsi, oIsi2, mNot, startD, mSeq, mIfS, mTOr, mTAnd, mTNot, mTest, mChain, mNext, oA1, oA2, oIB, oII, oII0, mOp, mUn, mAsg, mgName, mgTup, mgCons_c, mgNil_n, zipAs_l, zipAs_t, oSl_l, oSl_t, oSl_s, oSl_r, mPart, mSl, mIf, wipeD, oSign, oSS, oLen, LenD_s, LenD_l, LenD_t, LenD_m, miZ, miS, miT, miL, miE, miR, oEq, oNe, eqD_i, eqD_b, eqD_s, oInT, oIx, ixD_l, ixD_t, ixD_s, ixD_m, ix0, ix1, ix2, ix3, oAbs, oInt, oMax, oMin, mPar, mPar3, mTup, mLst, mLstM, asD, mExpr, itemsD_l, itemsD_t, oNeg, mgSub, mset_same, mIsN, mDrp, mTIsN, oEqW, eqW_n, eqW_b, eqW_i, eqW_s, non_n, non_b, non_i, non_s, non_l, non_t, miR2, mDNew, mDGet, mDPut, mDisp, mPairs, kD_s, kD_i, isStr, isTup, isLst, isBool, DL.isInt, mAppend, mDPop, oNeE, miM, DL.HoldL, mDIn, mDictZip, oRepU, mListZip, oDictP, mCallP, pick])
section
variable {P : Program} {w : World} {K : PySem.W.Frag} {mg : Str → Option Value} {base : Heap}
open Classical in
/-- what _law_owing tells of b, β, one's last, other's last -/
noncomputable def owingI (b β : Int) (la lb : Option Int) : Int := if owes b β lb la then 1 else if owes b β la lb then -1 else 0
def d_law_owing : DOs := fun as μ Q => ∃ h hp F a b β, as = [.mut hp, .dat (.str a), .dat (.str b), .dat (.int β)] ∧ HmAt h hp F μ ∧ h.names.Nodup ∧ a ∈ h.names ∧ b ∈ h.names ∧ Q (.dat (.int (owingI h.beat β (h.last a) (h.last b)))) μ
def d_law_may_lie : DOs := fun as μ Q => ∃ h hp F a b β, as = [.mut hp, .dat (.str a), .dat (.str b), .dat (.int β)] ∧ HmAt h hp F μ ∧ h.names.Nodup ∧ a ∈ h.names ∧ b ∈ h.names ∧ 0 ≤ β ∧ β ≤ 100 ∧ ∀ k : Bool, (k = true → mayLie h a b β) → Q (.dat (.bool k)) μ
theorem drop_ways {w : Str} : ∀ {ws : List Way}, dropA (ws.map wayK) (.inr w) = (ws.filter fun q => decide (q.1 ≠ w)).map wayK
  | [] => rfl
  | q :: r => by
    have ih := drop_ways (w := w) (ws := r)
    unfold dropA at ih ⊢
    rw [List.map_cons]
    by_cases e : q.1 = w
    · rw [List.filter_cons_of_neg (by simp [wayK, e]), List.filter_cons_of_neg (by simp [e]), ih]
    · rw [List.filter_cons_of_pos (by simp [wayK, e]), List.filter_cons_of_pos (by simp [e]), List.map_cons, ih]
def d_law_cut : DOs := fun as μ Q => ∃ h hp F q, as = [.mut hp, .dat (.str q.1)] ∧ HmAt h hp F μ ∧ h.Ok ∧ q ∈ h.ways ∧ ∀ μ', HmAt (h.cut q.1) hp F μ' → Q (.dat (wayD q)) μ'
end
end K1


set_option maxHeartbeats 4000000
namespace K1
open PySem PySem.Spec PyProof.Rows L2 RZ DL
local macro_rules | `(tactic| walk_at "dl") => `(tactic| simp [and_assoc, mRet, mAnd, mOr, mCall, mCons, mVar, mCls, mNil, mC, oIsi, oIsi2, mNot, startD, mSeq, mIfS, mTOr, mTAnd, mTNot, mTest, mChain, mNext, oA1, oA2, oIB, oII, oII0, mOp, mUn, mAsg, mgName, mgTup, mgCons_c, mgNil_n, zipAs_l, zipAs_t, oSl_l, oSl_t, oSl_s, oSl_r, mPart, mSl, mIf, wipeD, oSign, oSS, oLen, LenD_s, LenD_l, LenD_t, LenD_m, miZ, miS, miT, miL, miE, miR, oEq, oNe, eqD_i, eqD_b, eqD_s, oInT, oIx, ixD_l, ixD_t, ixD_s, ixD_m, ix0, ix1, ix2, ix3, oAbs, oInt, oMax, oMin, mPar, mPar3, mTup, mLst, mLstM, asD, mExpr, itemsD_l, itemsD_t, oNeg, mgSub, mset_same, mIsN, mDrp, mTIsN, oEqW, eqW_n, eqW_b, eqW_i, eqW_s, non_n, non_b, non_i, non_s, non_l, non_t, miR2, mDNew, mDGet, mDPut, mDisp, mPairs, kD_s, kD_i, isStr, isTup, isLst, isBool, DL.isInt, mAppend, mDPop, oNeE, miM, DL.HoldL, mDIn, mDictZip, oRepU, mListZip, oDictP, mCallP, pick])
section
variable {P : Program} {w : World} {K : PySem.W.Frag} {mg : Str → Option Value} {base : Heap}
theorem HmC.addF {h : Hm} {hp wp ap lp c : Addr} {F μ : Mu} {o : Option MO} (C : HmC h hp wp ap lp F μ) (e : μ c = o) (h1 : c ≠ hp) (h2 : c ≠ wp) (h3 : c ≠ ap) (h4 : c ≠ lp) : HmC h hp wp ap lp (mset F c o) μ :=
  ⟨C.hh, C.w, C.a, C.l, C.hw, C.ha, C.hl, C.wa, C.wl, C.al, by rw [mset_ne h1.symm]; exact C.fh, by rw [mset_ne h2.symm]; exact C.fw, by rw [mset_ne h3.symm]; exact C.fa, by rw [mset_ne h4.symm]; exact C.fl, fun b hb => by
    by_cases z : b = c
    · rw [z, mset_same, e]
    · rw [mset_ne z] at hb ⊢
      exact C.fr b hb⟩
theorem HmC.toF {h : Hm} {hp wp ap lp : Addr} {F F' μ μ' : Mu} (C : HmC h hp wp ap lp F μ) (k : ∀ b, b = hp ∨ b = wp ∨ b = ap ∨ b = lp → μ' b = μ b) (h1 : F' hp = none) (h2 : F' wp = none) (h3 : F' ap = none) (h4 : F' lp = none) (fr : ∀ b, F' b ≠ none → μ' b = F' b) : HmC h hp wp ap lp F' μ' :=
  ⟨by rw [k _ (.inl rfl)]; exact C.hh, by rw [k _ (.inr (.inl rfl))]; exact C.w, by rw [k _ (.inr (.inr (.inl rfl)))]; exact C.a, by rw [k _ (.inr (.inr (.inr rfl)))]; exact C.l, C.hw, C.ha, C.hl, C.wa, C.wl, C.al, h1, h2, h3, h4, fr⟩
theorem HmC.setB {h : Hm} {hp wp ap lp : Addr} {F μ : Mu} (C : HmC h hp wp ap lp F μ) (b : Int) : HmC { h with beat := b } hp wp ap lp F (mset μ hp (some (.dK (hmK { h with beat := b } wp ap lp)))) :=
  ⟨mset_same, by rw [mset_ne C.hw.symm]; exact C.w, by rw [mset_ne C.ha.symm]; exact C.a, by rw [mset_ne C.hl.symm]; exact C.l, C.hw, C.ha, C.hl, C.wa, C.wl, C.al, C.fh, C.fw, C.fa, C.fl, fun c hc => by
    rw [mset_ne fun z => hc (by rw [z]; exact C.fh)]
    exact C.fr c hc⟩
theorem HmC.fresh {h : Hm} {hp wp ap lp D : Addr} {F μ : Mu} (C : HmC h hp wp ap lp F μ) (hD : μ D = none) : D ≠ hp ∧ D ≠ wp ∧ D ≠ ap ∧ D ≠ lp ∧ F D = none := by
  have d1 : D ≠ hp := fun z => by rw [z, C.hh] at hD; cases hD
  have d2 : D ≠ wp := fun z => by rw [z, C.w] at hD; cases hD
  have d3 : D ≠ ap := fun z => by rw [z, C.a] at hD; cases hD
  have d4 : D ≠ lp := fun z => by rw [z, C.l] at hD; cases hD
  refine ⟨d1, d2, d3, d4, ?_⟩
  cases z : F D with
  | none => rfl
  | some m =>
    have := C.fr D (by rw [z]; simp)
    rw [hD, z] at this
    cases this
theorem HmC.newA {h : Hm} {hp wp ap lp D : Addr} {F μ : Mu} (C : HmC h hp wp ap lp F μ) (hD : μ D = none) (air : List ARow) : HmC { h with air := air } hp wp D lp F (mset (mset μ D (some (.lst ((air.map rowD3).map AV.dat)))) hp (some (.dK (hmK h wp D lp)))) := by
  obtain ⟨d1, d2, d3, d4, d5⟩ := C.fresh hD
  refine ⟨mset_same, by rw [mset_ne C.hw.symm, mset_ne d2.symm]; exact C.w, by rw [mset_ne d1, mset_same], by rw [mset_ne C.hl.symm, mset_ne d4.symm]; exact C.l, C.hw, d1.symm, C.hl, d2.symm, C.wl, d4, C.fh, C.fw, d5, C.fl, fun b hb => ?_⟩
  rw [mset_ne fun z => hb (by rw [z]; exact C.fh), mset_ne fun z => hb (by rw [z]; exact d5)]
  exact C.fr b hb
theorem HmC.offF {h : Hm} {hp wp ap lp p : Addr} {F μ : Mu} {o : MO} (C : HmC h hp wp ap lp (mset F p (some o)) μ) : p ≠ hp ∧ p ≠ wp ∧ p ≠ ap ∧ p ≠ lp ∧ μ p = some o :=
by
  have d1 : p ≠ hp := fun z => by have := C.fh; rw [z, mset_same] at this; cases this
  have d2 : p ≠ wp := fun z => by have := C.fw; rw [z, mset_same] at this; cases this
  have d3 : p ≠ ap := fun z => by have := C.fa; rw [z, mset_same] at this; cases this
  have d4 : p ≠ lp := fun z => by have := C.fl; rw [z, mset_same] at this; cases this
  exact ⟨d1, d2, d3, d4, by rw [C.fr p (by rw [mset_same]; simp), mset_same]⟩
theorem HmC.setF {h : Hm} {hp wp ap lp p : Addr} {F μ : Mu} {o o' : MO} (C : HmC h hp wp ap lp (mset F p (some o)) μ) : HmC h hp wp ap lp (mset F p (some o')) (mset μ p (some o')) := by
  obtain ⟨d1, d2, d3, d4, d5⟩ := C.offF
  refine C.toF (fun b hb => mset_ne (by rintro rfl; rcases hb with z | z | z | z <;> contradiction)) (by rw [mset_ne d1.symm]; have := C.fh; rwa [mset_ne d1.symm] at this) (by rw [mset_ne d2.symm]; have := C.fw; rwa [mset_ne d2.symm] at this) (by rw [mset_ne d3.symm]; have := C.fa; rwa [mset_ne d3.symm] at this) (by rw [mset_ne d4.symm]; have := C.fl; rwa [mset_ne d4.symm] at this) fun b hb => ?_
  by_cases z : b = p
  · rw [z, mset_same, mset_same]
  · rw [mset_ne z] at hb ⊢
    rw [mset_ne z]
    have := C.fr b (by rw [mset_ne z]; exact hb)
    rwa [mset_ne z] at this
theorem HmC.dropF {h : Hm} {hp wp ap lp p : Addr} {F μ : Mu} {o : MO} (C : HmC h hp wp ap lp (mset F p (some o)) μ) (hF : F p = none) : HmC h hp wp ap lp F (mset μ p none) := by
  obtain ⟨d1, d2, d3, d4, d5⟩ := C.offF
  refine C.toF (fun b hb => mset_ne (by rintro rfl; rcases hb with z | z | z | z <;> contradiction)) (by have := C.fh; rwa [mset_ne d1.symm] at this) (by have := C.fw; rwa [mset_ne d2.symm] at this) (by have := C.fa; rwa [mset_ne d3.symm] at this) (by have := C.fl; rwa [mset_ne d4.symm] at this) fun b hb => ?_
  have z : b ≠ p := fun z => hb (by rw [z]; exact hF)
  rw [mset_ne z]
  have := C.fr b (by rw [mset_ne z]; exact hb)
  rwa [mset_ne z] at this
theorem HmC.keep {h : Hm} {hp wp ap lp : Addr} {F μ μ' : Mu} (C : HmC h hp wp ap lp F μ) (k : ∀ b, μ b ≠ none → μ' b = μ b) : HmC h hp wp ap lp F μ' :=
  C.toF (fun b hb => k b (by rcases hb with z | z | z | z <;> subst z <;> simp [C.hh, C.w, C.a, C.l])) C.fh C.fw C.fa C.fl fun b hb => by
    have := C.fr b hb
    rw [k b (by rw [this]; exact hb)]
    exact this
theorem ite_cg {α : Type} {a b : Prop} {i1 : Decidable a} {i2 : Decidable b} {x u y : α} (h : a ↔ b) (e : x = u) : (@ite α a i1 x y) = @ite α b i2 u y := by
  by_cases z : a
  · rw [if_pos z, if_pos (h.mp z), e]
  · rw [if_neg z, if_neg fun w => z (h.mpr w)]
theorem strOk_nm {s : Str} (h : nmOk s) : (PyData.str s).canLay0 = true := fine_lay (nm_fine h)
theorem shaped_rows {rows : List ARow} (h : ∀ r ∈ rows, nmOk r.2.1 ∧ nmOk r.2.2) : SeqAt.shaped (.list (rows.map rowD3)) = true := by
  have h1 : PyData.canLayAll0 (rows.map rowD3) = true := by
    induction rows with
    | nil => rfl
    | cons r rows ih =>
      have := h r List.mem_cons_self
      rw [List.map_cons]
      simp only [PyData.canLayAll0, Bool.and_eq_true]
      exact ⟨by simp only [rowD3, PyData.canLay0, PyData.canLayAll0, Bool.and_eq_true]; exact ⟨trivial, strOk_nm this.1, strOk_nm this.2, trivial⟩, ih fun r hr => h r (List.mem_cons_of_mem _ hr)⟩
  have h2 : PyData.depthAll (rows.map rowD3) ≤ 1 := depthAll_le fun x hx => by
    obtain ⟨r, _, rfl⟩ := List.mem_map.mp hx
    simp [rowD3, PyData.depth, PyData.depthAll]
  show (_ && decide (_ ≤ 64)) = true
  rw [Bool.and_eq_true]
  exact ⟨by simpa [PyData.canLay0] using h1, decide_eq_true (by simp only [PyData.depth]; omega)⟩
theorem eqv_nil {rows : List ARow} : PyData.eqv (.list (rows.map rowD3)) (.list []) = rows.isEmpty := by
  cases rows with
  | nil => simp [PyData.eqv, PyData.eqvAll]
  | cons r rows => simp [PyData.eqv, PyData.eqvAll]
theorem quietC {h : Hm} (o : h.Ok) {n : Nat} {ns : List Str} (hT : ∀ r ∈ h.air, h.beat + n < r.1) : runC h.ways h.rest ns h.beat n h.last = [] := runC_quiet n h.beat h.last fun c k h1 h2 hc => by
  obtain ⟨w, hw⟩ := o.heard h1 hc
  have := hT _ hw
  simp only at this
  omega
theorem runC_gone {h h' : Hm} {k d : Nat} {ns : List Str} (t : GoneTo h k h') : runC h.ways h.rest ns h.beat (k + d) h.last = runC h.ways h.rest ns h.beat k h.last ++ runC h'.ways h'.rest ns h'.beat d h'.last := by
  rw [runC_add, t.ways, t.rest, t.beat, t.last]
theorem callsD_app (a b : List (Int × Str)) : callsD (a ++ b) = callsD a ++ callsD b := List.map_append
def mayB (T r : Int) : Option Int → Bool
  | none => true
  | some l => decide (l + r ≤ T)
theorem mayB_iff {T r : Int} {o : Option Int} : mayB T r o = true ↔ ∀ l, o = some l → l + r ≤ T := by
  cases o with
  | none => simp [mayB]
  | some l => simp [mayB]
/-- who hears and may call at T, as sorted(set(..)) has them: just who calls then -/
theorem callers_heard {h' : Hm} (o : h'.Ok) {T : Int} (hb : h'.beat < T) {ns : List Str} (hs1 : sortedS ns = true) (hs2 : ns.Nodup) (hns : ∀ c, c ∈ ns ↔ ∃ w, (T, c, w) ∈ h'.air) :
    callers h'.ways h'.rest h'.last T h'.names = ns.filter fun c => mayB T h'.rest (h'.last c) := by
  refine sorted_same (sorted_filter o.rise _) (sorted_filter hs1 _) (o.nodup.filter _) (hs2.filter _) fun c => ?_
  rw [callers_mem, List.mem_filter, mayB_iff, calls_now o hb c, hns]
  exact ⟨fun z => z.2, fun z => ⟨by obtain ⟨w, hw⟩ := z.1; exact (o.air_nm hw).1, z⟩⟩
def d_law_goes : DOs := fun as μ Q => ∃ h hp F n, as = [.mut hp, .dat (.int (n : Nat))] ∧ HmAt h hp F μ ∧ h.Ok ∧ n ≤ 1000 ∧ ∀ h' μ', GoneTo h n h' → h'.Ok → HmAt h' hp F μ' → HmTo h hp F μ h' μ' → Q (.dat (.list (callsD (runC h.ways h.rest h.names h.beat n h.last)))) μ'
end
end K1


set_option maxHeartbeats 4000000
namespace K1
open PySem PySem.Spec PyProof.Rows L2 RZ DL
local macro_rules | `(tactic| walk_at "dl") => `(tactic| simp [and_assoc, mRet, mAnd, mOr, mCall, mCons, mVar, mCls, mNil, mC, oIsi, oIsi2, mNot, startD, mSeq, mIfS, mTOr, mTAnd, mTNot, mTest, mChain, mNext, oA1, oA2, oIB, oII, oII0, mOp, mUn, mAsg, mgName, mgTup, mgCons_c, mgNil_n, zipAs_l, zipAs_t, oSl_l, oSl_t, oSl_s, oSl_r, mPart, mSl, mIf, wipeD, oSign, oSS, oLen, LenD_s, LenD_l, LenD_t, LenD_m, miZ, miS, miT, miL, miE, miR, oEq, oNe, eqD_i, eqD_b, eqD_s, oInT, oIx, ixD_l, ixD_t, ixD_s, ixD_m, ix0, ix1, ix2, ix3, oAbs, oInt, oMax, oMin, mPar, mPar3, mTup, mLst, mLstM, asD, mExpr, itemsD_l, itemsD_t, oNeg, mgSub, mset_same, mIsN, mDrp, mTIsN, oEqW, eqW_n, eqW_b, eqW_i, eqW_s, non_n, non_b, non_i, non_s, non_l, non_t, miR2, mDNew, mDGet, mDPut, mDisp, mPairs, kD_s, kD_i, isStr, isTup, isLst, isBool, DL.isInt, mAppend, mDPop, oNeE, miM, DL.HoldL, mDIn, mDictZip, oRepU, mListZip, oDictP, mCallP, pick])
section
variable {P : Program} {w : World} {K : PySem.W.Frag} {mg : Str → Option Value} {base : Heap}
/-- a heath beside a tape -/
def HT (t : Addr) (n : Int) (h : Hm) (hp : Addr) (F μ : Mu) : Prop := TapeAt t n F ∧ HmAt h hp F μ
theorem HT.tape {t : Addr} {n : Int} {h : Hm} {hp : Addr} {F μ : Mu} (H : HT t n h hp F μ) : TapeAt t n μ := by
  obtain ⟨⟨a, b, c, e, r⟩, wp, ap, lp, C⟩ := H
  exact ⟨a, b, c, by rw [C.fr t (by rw [e]; simp)]; exact e, r⟩
theorem HT.draw {t : Addr} {n m : Int} {h : Hm} {hp : Addr} {F μ μ' : Mu} (H : HT t n h hp F μ) (ht : TapeAt t m μ') (hf : Fr t μ μ') : HT t m h hp (mset F t (μ' t)) μ' := by
  obtain ⟨⟨a, b, c, e, r⟩, wp, ap, lp, C⟩ := H
  have n1 : t ≠ hp := fun z => by have := C.fh; rw [← z, e] at this; cases this
  have n2 : t ≠ wp := fun z => by have := C.fw; rw [← z, e] at this; cases this
  have n3 : t ≠ ap := fun z => by have := C.fa; rw [← z, e] at this; cases this
  have n4 : t ≠ lp := fun z => by have := C.fl; rw [← z, e] at this; cases this
  obtain ⟨a', b', c', e', r'⟩ := ht
  refine ⟨⟨a', b', c', by rw [mset_same]; exact e', r'⟩, wp, ap, lp, C.toF (fun x hx => hf x (by rintro rfl; rcases hx with z | z | z | z <;> contradiction)) (by rw [mset_ne n1.symm]; exact C.fh) (by rw [mset_ne n2.symm]; exact C.fw) (by rw [mset_ne n3.symm]; exact C.fa) (by rw [mset_ne n4.symm]; exact C.fl) fun x hx => ?_⟩
  by_cases z : x = t
  · rw [z, mset_same]
  · rw [mset_ne z] at hx ⊢
    rw [hf x z]
    exact C.fr x hx
theorem HT.le {t : Addr} {n m : Int} {h : Hm} {hp : Addr} {F μ : Mu} (H : HT t n h hp F μ) (e : n ≤ m) : HT t m h hp F μ := ⟨H.1.le e, H.2⟩
/-- some deeds on, a while on -/
def Near (h h' : Hm) : Prop := Reach h h' ∧ h'.beat ≤ h.beat + 70
theorem go_part {t : Addr} {n : Int} {h : Hm} {hp : Addr} {F μ : Mu} {Q : DV} {i : Int} (H : HT t (n + 2) h hp F μ) (hsl : sizeLine = 16777216) (h0 : 0 ≤ i) (h6 : i < 6) (q : ∀ h' F' μ', Near h h' → HT t (n + 3) h' hp F' μ' → Fr t F F' → Q (.dat .none) μ') (o : h.Ok) (hn : n ≤ 700000) :
    ∃ x, μ hp = some (MO.dK x) ∧ ∃ x_1, valA x (.inr (Str.ofString "rest")) = some x_1 ∧ ∃ i_1, x_1 = AV.dat (PyData.int i_1) ∧ 3 ≤ sizeLine ∧ ∃ i_2, AV.dat (PyData.int i) = AV.dat (PyData.int i_2) ∧
      ∃ x, (∃ d, x = AV.dat d ∧ atI [PyData.int 3, PyData.int (i_1 + 1), PyData.int 40] (i_2 % 3) = some d) ∧ d_law_draw [AV.mut t, x] μ fun x μ1 => d_law_goes [AV.mut hp, x] μ1 fun x μ1 => Q (AV.dat PyData.none) μ1 := by
  obtain ⟨_, wp, ap, lp, C⟩ := id H
  have r3 := o.rest3
  have r24 := o.rest24
  obtain ⟨b, hb, hb1, hb2⟩ : ∃ b : Int, atI [PyData.int 3, PyData.int (h.rest + 1), PyData.int 40] (i % 3) = some (.int b) ∧ 1 ≤ b ∧ b ≤ 40 := by
    have : i % 3 = 0 ∨ i % 3 = 1 ∨ i % 3 = 2 := by omega
    rcases this with e | e | e <;> rw [e]
    · exact ⟨3, ix0 _ _, by omega, by omega⟩
    · exact ⟨_, ix1 _ _ _, by omega, by omega⟩
    · exact ⟨40, ix2 _ _ _ _, by omega, by omega⟩
  refine ⟨_, C.hh, _, k_rest, _, rfl, by omega, _, rfl, _, ⟨_, rfl, hb⟩, t, b, n + 2, rfl, H.tape, by omega, hb1, by omega, fun x μ1 x0 x1 t1 f1 => ?_⟩
  have H1 := H.draw t1 f1
  obtain ⟨k, rfl⟩ : ∃ k : Nat, x = (k : Int) := ⟨x.toNat, by omega⟩
  refine ⟨h, hp, _, k, rfl, H1.2, o, by omega, fun h' μ' g o' H' _ => ?_⟩
  exact q h' _ μ' ⟨.go (.refl h) g o', by have := g.beat; omega⟩ (HT.le (m := n + 3) ⟨H1.1, H'⟩ (by omega)) fun b hb => mset_ne hb
theorem HmC.lay {h : Hm} {hp wp ap lp : Addr} {F μ : Mu} (C : HmC h hp wp ap lp F μ) {q : Way} (hq : q.1 ∉ h.ways.map (·.1)) : HmC (h.lay q) hp wp ap lp F (mset μ wp (some (.dK (putA (h.ways.map wayK) (.inr q.1) (.dat (wayD q)))))) := by
  have e : putA (h.ways.map wayK) (.inr q.1) (.dat (wayD q)) = (h.lay q).ways.map wayK := by
    rw [putA_new (fun z => hq (by
      rw [List.map_map] at z
      obtain ⟨p, h1, h2⟩ := List.mem_map.mp z
      exact List.mem_map.mpr ⟨p, h1, Sum.inr.inj h2⟩))]
    show _ = (h.ways ++ [q]).map wayK
    rw [List.map_append]
    rfl
  rw [e]
  exact ⟨by rw [mset_ne C.hw]; exact C.hh, mset_same, by rw [mset_ne C.wa.symm]; exact C.a, by rw [mset_ne C.wl.symm]; exact C.l, C.hw, C.ha, C.hl, C.wa, C.wl, C.al, C.fh, C.fw, C.fa, C.fl, fun c hc => by
    rw [mset_ne fun z => hc (by rw [z]; exact C.fw)]
    exact C.fr c hc⟩
theorem HT.lay {t : Addr} {n : Int} {h : Hm} {hp : Addr} {F μ : Mu} (H : HT t n h hp F μ) {q : Way} (hq : q.1 ∉ h.ways.map (·.1)) : ∃ wp, μ hp = some (.dK (hmK h wp H.2.choose_spec.choose H.2.choose_spec.choose_spec.choose)) ∧ True := ⟨_, H.2.choose_spec.choose_spec.choose_spec.hh, trivial⟩
theorem way_ix {q : Way} {μ : Mu} : ixD (.dat (wayD q)) μ 0 (.dat (.str q.2.1)) ∧ ixD (.dat (wayD q)) μ 1 (.dat (.str q.2.2.1)) ∧ ixD (.dat (wayD q)) μ 2 (.dat (.int q.2.2.2)) := by
  unfold wayD
  rw [ixD_t, ixD_t, ixD_t]
  exact ⟨⟨_, rfl, ix0 _ _⟩, ⟨_, rfl, ix1 _ _ _⟩, ⟨_, rfl, ix2 _ _ _ _⟩⟩
theorem tail_part {t : Addr} {n : Int} {h : Hm} {hp : Addr} {F μ1 : Mu} {Q : DV} {w0 : Way} (H : HT t n h hp F μ1) (hsl : sizeLine = 16777216) (o : h.Ok) (hn : n ≤ 900000) (a1 : w0.2.1 ∈ h.names) (a2 : w0.2.2.1 ∈ h.names) (a3 : w0.2.1 ≠ w0.2.2.1) (a4 : 1 ≤ w0.2.2.2) (a5 : w0.2.2.2 ≤ 6) (a6 : 2 * w0.2.2.2 + 1 ≤ h.rest) (a7 : w0.1 ∉ h.ways.map (·.1)) (a8 : h.ways.length < 10) (a9 : nmOk w0.1)
    (q : ∀ h' F' μ', Near h h' → HT t (n + 1) h' hp F' μ' → Fr t F F' → Q (.dat .none) μ') :
    ∃ x, μ1 hp = some (MO.dK x) ∧ ∃ x_10, valA x (.inr (Str.ofString "rest")) = some x_10 ∧ ∃ x, ixD (.dat (wayD w0)) μ1 2 x ∧ ∃ i, x_10 = AV.dat (PyData.int i) ∧ ∃ x_11, x = AV.dat (PyData.int x_11) ∧ d_law_draw [AV.mut t, AV.dat (PyData.int 3)] μ1 fun y μ2 => ∃ x, y = AV.dat (PyData.int x) ∧
      d_law_goes [AV.mut hp, AV.dat (PyData.int (i - x_11 + x))] μ2 fun x μ1 => ∃ x, ixD (.dat (wayD w0)) μ1 0 x ∧ ∃ x_12, ixD (.dat (wayD w0)) μ1 1 x_12 ∧ ∃ x_13, ixD (.dat (wayD w0)) μ1 2 x_13 ∧ d_law_may_lie [AV.mut hp, x, x_12, x_13] μ1 fun x μ1 =>
        x = AV.dat (PyData.bool false) ∧ Q (AV.dat PyData.none) μ1 ∨ x = AV.dat (PyData.bool true) ∧ ∃ x, μ1 hp = some (MO.dK x) ∧ ∃ x_14, valA x (.inr (Str.ofString "ways")) = some x_14 ∧ ∃ p, x_14 = AV.mut p ∧ ∃ x x_15, AV.dat (PyData.str w0.1) = AV.dat (kD x_15) ∧ μ1 p = some (MO.dK x) ∧ x.length < sizeLine ∧
          Q (AV.dat PyData.none) (mset μ1 p (some (MO.dK (putA x x_15 (.dat (wayD w0)))))) := by
  obtain ⟨_, wp, ap, lp, C⟩ := id H
  have r24 := o.rest24
  refine ⟨_, C.hh, _, k_rest, _, way_ix.2.2, _, rfl, _, rfl, t, 3, n, rfl, H.tape, by omega, by omega, by omega, fun x μ2 x0 x1 t1 f1 => ?_⟩
  have H1 := H.draw t1 f1
  obtain ⟨k, ek⟩ : ∃ k : Nat, h.rest - w0.2.2.2 + x = (k : Int) := ⟨(h.rest - w0.2.2.2 + x).toNat, by omega⟩
  refine ⟨_, rfl, h, hp, _, k, by rw [ek], H1.2, o, by omega, fun h' μ3 g o' H' _ => ?_⟩
  refine ⟨_, way_ix.1, _, way_ix.2.1, _, way_ix.2.2, h', hp, _, _, _, _, rfl, H', o'.nodup, by rw [g.names]; exact a1, by rw [g.names]; exact a2, by omega, by omega, fun b hb => ?_⟩
  have F1 : Fr t F (mset F t (μ2 t)) := fun b hb => mset_ne hb
  cases b with
  | false => exact .inl ⟨rfl, q h' _ μ3 ⟨.go (.refl h) g o', by have := g.beat; omega⟩ ⟨H1.1, H'⟩ F1⟩
  | true =>
    obtain ⟨wp3, ap3, lp3, C3⟩ := id H'
    have a7' : w0.1 ∉ h'.ways.map (·.1) := by rw [g.ways]; exact a7
    have a8' : h'.ways.length < 10 := by rw [g.ways]; exact a8
    refine .inr ⟨rfl, _, C3.hh, _, k_ways, wp3, rfl, _, .inr w0.1, rfl, C3.w, by rw [List.length_map]; omega, ?_⟩
    exact q (h'.lay w0) _ _ ⟨.lay (.go (.refl h) g o') ⟨a7', by rw [g.names]; exact a1, by rw [g.names]; exact a2, a3, a4, a5, a8', a9, hb rfl⟩, by show h'.beat ≤ _; have := g.beat; omega⟩ ⟨H1.1, wp3, ap3, lp3, C3.lay a7'⟩ F1
theorem zname : nmOk (Str.ofString "zzzzzzzy") := by
  unfold nmOk
  decide +kernel
theorem lay_part {t : Addr} {n : Int} {h : Hm} {hp : Addr} {F μ2 : Mu} {Q : DV} (H : HT t n h hp F μ2) (hsl : sizeLine = 16777216) (o : h.Ok) (hn : n ≤ 800000) (q : ∀ h' F' μ', Near h h' → HT t (n + 3) h' hp F' μ' → Fr t F F' → Q (.dat .none) μ') :
    ∃ x, μ2 hp = some (MO.dK x) ∧ ∃ x_1, valA x (.inr (Str.ofString "names")) = some x_1 ∧ ∃ n : Nat, LenD x_1 μ2 n ∧ if 1 < (n : Int) then ∃ x, μ2 hp = some (MO.dK x) ∧ ∃ x_2, valA x (.inr (Str.ofString "ways")) = some x_2 ∧ oLenK x_2 μ2 fun x μ1 => ∃ i, x = AV.dat (PyData.int i) ∧
      if i < 10 then ∃ x, μ1 hp = some (MO.dK x) ∧ ∃ x_3, valA x (.inr (Str.ofString "ways")) = some x_3 ∧ ∃ p, x_3 = AV.mut p ∧ ∃ x, μ1 p = some (MO.dK x) ∧ if valA x (.inr (Str.ofString "zzzzzzzy")) = none then ∃ x, μ1 hp = some (MO.dK x) ∧ ∃ x_4, valA x (.inr (Str.ofString "names")) = some x_4 ∧
        d_law_part [AV.mut t, x_4, AV.dat (PyData.int 2)] μ1 fun x μ1 => oSortS x μ1 fun a μ1 => ∃ x, μ1 hp = some (MO.dK x) ∧ ∃ x_5, valA x (.inr (Str.ofString "rest")) = some x_5 ∧ ∃ i, x_5 = AV.dat (PyData.int i) ∧ CDivW (i - 1) 2 ∧ d_law_draw [AV.mut t, AV.dat (PyData.int (if (i - 1) / 2 < 6 then (i - 1) / 2 else 6))] μ1 fun y μ2 => ∃ x, y = AV.dat (PyData.int x) ∧
          ∃ x_6, ixD a μ2 0 x_6 ∧ ∃ x_7, ixD a μ2 1 x_7 ∧ d_law_may_lie [AV.mut hp, x_6, x_7, AV.dat (PyData.int (1 + x))] μ2 fun x_8 μ1 => x_8 = AV.dat (PyData.bool false) ∧ Q (AV.dat PyData.none) μ1 ∨ x_8 = AV.dat (PyData.bool true) ∧ ∃ x_9, ixD a μ1 0 x_9 ∧ ∃ x_10, ixD a μ1 1 x_10 ∧ ∃ ds, asD [x_9, x_10, AV.dat (PyData.int (1 + x))] = some ds ∧ ds.length ≤ sizeLine ∧
            ∃ x, μ1 hp = some (MO.dK x) ∧ ∃ x_11, valA x (.inr (Str.ofString "ways")) = some x_11 ∧ ∃ p, x_11 = AV.mut p ∧ ∃ x, μ1 p = some (MO.dK x) ∧ x.length < sizeLine ∧ Q (AV.dat PyData.none) (mset μ1 p (some (MO.dK (putA x (.inr (Str.ofString "zzzzzzzy")) (AV.dat (PyData.tuple ds))))))
        else Q (AV.dat PyData.none) μ1 else Q (AV.dat PyData.none) μ1 else Q (AV.dat PyData.none) μ2 := by
  obtain ⟨_, wp, ap, lp, C⟩ := id H
  have r3 := o.rest3
  have r24 := o.rest24
  have n8 := o.len8
  have w10 := o.wlen
  refine ⟨_, C.hh, _, k_names, h.names.length, by rw [LenD_l, List.length_map], ?_⟩
  by_cases l1 : 1 < (h.names.length : Int)
  · rw [if_pos l1]
    refine ⟨_, C.hh, _, k_ways, wp, _, rfl, C.w, _, rfl, ?_⟩
    by_cases l2 : ((h.ways.map wayK).length : Int) < 10
    · rw [if_pos l2]
      rw [List.length_map] at l2
      refine ⟨_, C.hh, _, k_ways, wp, rfl, _, C.w, ?_⟩
      by_cases l3 : valA (h.ways.map wayK) (.inr (Str.ofString "zzzzzzzy")) = none
      · rw [if_pos l3]
        have l4 : Str.ofString "zzzzzzzy" ∉ h.ways.map (·.1) := fun z => by
          obtain ⟨p, h1, h2⟩ := List.mem_map.mp z
          have := valA_ways o.w.wnodup h1
          rw [h2, l3] at this
          cases this
        refine ⟨_, C.hh, _, k_names, t, n, h.names, 2, rfl, H.tape, by omega, by omega, by omega, fun as xs μ3 e1 e2 t1 f1 => ?_⟩
        have H1 := H.draw t1 f1
        refine ⟨as, rfl, by omega, fun ys hy1 hy2 => ?_⟩
        obtain ⟨p0, p1, rfl⟩ : ∃ p0 p1, ys = [p0, p1] := by
          have := hy1.length_eq
          rw [e1] at this
          match ys, this with
          | [p0, p1], _ => exact ⟨p0, p1, rfl⟩
        have hsub : ∀ c ∈ [p0, p1], c ∈ h.names := fun c hc => e2.mem_iff.mp (List.mem_append.mpr (.inl (hy1.mem_iff.mp hc)))
        have hnd : [p0, p1].Nodup := hy1.nodup_iff.mpr ((e2.nodup_iff.mpr o.nodup).sublist (List.sublist_append_left _ _))
        have hne : p0 ≠ p1 := fun e => by rw [e] at hnd; simp at hnd
        obtain ⟨_, wp1, ap1, lp1, C1⟩ := id H1
        refine ⟨_, C1.hh, _, k_rest, _, rfl, divw (by omega) (by decide), t, _, _, rfl, H1.tape, by omega, ?_, ?_, fun x μ4 x0 x1 t2 f2 => ?_⟩
        · split <;> omega
        · split <;> omega
        · have H2 := H1.draw t2 f2
          have hb : 1 + x ≤ 6 ∧ 2 * (1 + x) + 1 ≤ h.rest := by
            split at x1 <;> omega
          have F2 : Fr t F (mset (mset F t (μ3 t)) t (μ4 t)) := fun b hb => by rw [mset_ne hb, mset_ne hb]
          refine ⟨_, rfl, .dat (.str p0), ⟨_, rfl, ix0 _ _⟩, .dat (.str p1), ⟨_, rfl, ix1 _ _ _⟩, h, hp, _, p0, p1, _, rfl, H2.2, o.nodup, hsub _ (by simp), hsub _ (by simp), by omega, by omega, fun b hb2 => ?_⟩
          cases b with
          | false => exact .inl ⟨rfl, q h _ μ4 ⟨.refl h, by omega⟩ (H2.le (by omega)) F2⟩
          | true =>
            obtain ⟨_, wp3, ap3, lp3, C3⟩ := id H2
            refine .inr ⟨rfl, .dat (.str p0), ⟨_, rfl, ix0 _ _⟩, .dat (.str p1), ⟨_, rfl, ix1 _ _ _⟩, [.str p0, .str p1, .int (1 + x)], rfl, by show 3 ≤ sizeLine; omega, _, C3.hh, _, k_ways, wp3, rfl, _, C3.w, by rw [List.length_map]; omega, ?_⟩
            exact q (h.lay (Str.ofString "zzzzzzzy", p0, p1, 1 + x)) _ _ ⟨.lay (.refl h) ⟨l4, hsub _ (by simp), hsub _ (by simp), hne, by show 1 ≤ 1 + x; omega, hb.1, by omega, zname, hb2 rfl⟩, by show h.beat ≤ _; omega⟩ (HT.le (m := n + 3) ⟨H2.1, wp3, ap3, lp3, C3.lay (q := (Str.ofString "zzzzzzzy", p0, p1, 1 + x)) l4⟩ (by omega)) F2
      · rw [if_neg l3]
        exact q h F μ2 ⟨.refl h, by omega⟩ (H.le (by omega)) (Fr.refl t F)
    · rw [if_neg l2]
      exact q h F μ2 ⟨.refl h, by omega⟩ (H.le (by omega)) (Fr.refl t F)
  · rw [if_neg l1]
    exact q h F μ2 ⟨.refl h, by omega⟩ (H.le (by omega)) (Fr.refl t F)
def d_law_deed : DOs := fun as μ Q => ∃ t n h hp F, as = [.mut t, .mut hp] ∧ HT t n h hp F μ ∧ h.Ok ∧ n ≤ 700000 ∧ ∀ h' F' μ', Near h h' → HT t (n + 20) h' hp F' μ' → Fr t F F' → Q (.dat .none) μ'
end
end K1


set_option maxHeartbeats 4000000
namespace K1
open PySem PySem.Spec PyProof.Rows L2 RZ DL
local macro_rules | `(tactic| walk_at "dl") => `(tactic| simp [and_assoc, mRet, mAnd, mOr, mCall, mCons, mVar, mCls, mNil, mC, oIsi, oIsi2, mNot, startD, mSeq, mIfS, mTOr, mTAnd, mTNot, mTest, mChain, mNext, oA1, oA2, oIB, oII, oII0, mOp, mUn, mAsg, mgName, mgTup, mgCons_c, mgNil_n, zipAs_l, zipAs_t, oSl_l, oSl_t, oSl_s, oSl_r, mPart, mSl, mIf, wipeD, oSign, oSS, oLen, LenD_s, LenD_l, LenD_t, LenD_m, miZ, miS, miT, miL, miE, miR, oEq, oNe, eqD_i, eqD_b, eqD_s, oInT, oIx, ixD_l, ixD_t, ixD_s, ixD_m, ix0, ix1, ix2, ix3, oAbs, oInt, oMax, oMin, mPar, mPar3, mTup, mLst, mLstM, asD, mExpr, itemsD_l, itemsD_t, oNeg, mgSub, mset_same, mIsN, mDrp, mTIsN, oEqW, eqW_n, eqW_b, eqW_i, eqW_s, non_n, non_b, non_i, non_s, non_l, non_t, miR2, mDNew, mDGet, mDPut, mDisp, mPairs, kD_s, kD_i, isStr, isTup, isLst, isBool, DL.isInt, mAppend, mDPop, oNeE, miM, DL.HoldL, mDIn, mDictZip, oRepU, mListZip, oDictP, mCallP, pick])
section
variable {P : Program} {w : World} {K : PySem.W.Frag} {mg : Str → Option Value} {base : Heap}
def baseH (h : Hs) : Hm := ⟨h.rest, h.names, h.ways, 0, fun _ => none, []⟩
theorem base_ok {h : Hs} (o : HsOk h) : (baseH h).Ok :=
  ⟨o.rest3, o.rest24, o.len1, o.len8, o.nodup, o.rise, o.nok, o.wlen, ⟨o.wnodup, fun q hq => ⟨(o.wok q hq).2.2.2.1, (o.wok q hq).2.2.2.2.1, (o.wok q hq).2.2.2.2.2.2⟩⟩, fun q hq => ⟨(o.wok q hq).2.1, (o.wok q hq).2.2.1, (o.wok q hq).2.2.2.2.2.1, (o.wok q hq).1⟩, by show (0 : Int) ≤ 0; omega,
    fun c l e => (nomatch (show (none : Option Int) = some l from e)), fun x y w β l _ e _ => (nomatch (show (none : Option Int) = some l from e)), fun r hr => (nomatch (show r ∈ ([] : List ARow) from hr)), List.Pairwise.nil⟩
theorem base_steps {h : Hs} (o : HsOk h) : stepsIn (baseH h).ways (baseH h).rest (baseH h).beat (baseH h).last := fun x y w β s => by
  show inStep 0 h.rest β none none
  have := ((base_ok o).w.sends s).2.1
  refine ⟨fun z => z.elim, fun z => z.elim, fun _ _ => ?_⟩
  simp only [frB]
  omega
/-- all but a heath's own cells -/
def othF (hp wp ap lp : Addr) (μ : Mu) : Mu := fun b => if b = hp ∨ b = wp ∨ b = ap ∨ b = lp then none else μ b
theorem begun_at {h : Hs} {hp wp ap lp t : Addr} {n : Int} {μ : Mu} (a : HsAt h hp wp ap lp μ) (ht : TapeAt t n μ) (h1 : hp ≠ t) : HT t n (baseH h) hp (othF hp wp ap lp μ) μ := by
  obtain ⟨e1, e2, e3, e4, d1, d2, d3, d4, d5, d6⟩ := a.ex
  obtain ⟨x, y, z, e, r⟩ := ht
  have t2 : t ≠ wp := fun q => by rw [q, e2] at e; cases e
  have t3 : t ≠ ap := fun q => by rw [q, e3] at e; cases e
  have t4 : t ≠ lp := fun q => by rw [q, e4] at e; cases e
  refine ⟨⟨x, y, z, ?_, r⟩, wp, ap, lp, e1, e2, e3, ?_, d1.symm, d2.symm, d3.symm, d4, d5, d6, if_pos (.inl rfl), if_pos (.inr (.inl rfl)), if_pos (.inr (.inr (.inl rfl))), if_pos (.inr (.inr (.inr rfl))), fun b hb => ?_⟩
  · unfold othF
    rw [if_neg (by rintro (q | q | q | q) <;> simp_all)]
    exact e
  · exact e4
  · unfold othF at hb ⊢
    by_cases q : b = hp ∨ b = wp ∨ b = ap ∨ b = lp
    · rw [if_pos q] at hb
      exact absurd rfl hb
    · rw [if_neg q]
def d_law_heath : DOs := fun as μ Q => ∃ (t : Addr) (n mo : Int), as = [.mut t, .dat (.int mo)] ∧ 1 ≤ mo ∧ mo ≤ 8 ∧ TapeAt t n μ ∧ n ≤ 600000 ∧ ∀ h0 h hp F μ', HsOk h0 → Reach (baseH h0) h → h.beat ≤ 700 → HT t (n + 400) h hp F μ' → (∀ b, b ≠ t → μ b ≠ none → F b = μ b) → Q (.mut hp) μ'
/-- what a plan and a picture ask of a heath -/
structure Shp (h : Hm) : Prop where
  len8 : h.names.length ≤ 8
  nodup : h.names.Nodup
  wlen : h.ways.length ≤ 10
  wnodup : (h.ways.map (·.1)).Nodup
theorem _root_.DL.Hm.Ok.shp {h : Hm} (o : h.Ok) : Shp h := ⟨o.len8, o.nodup, o.wlen, o.w.wnodup⟩
instance {h : Hm} : Coe h.Ok (Shp h) := ⟨Hm.Ok.shp⟩
def d_law_plan_of : DOs := fun as μ Q => ∃ h hp F, as = [.mut hp] ∧ Shp h ∧ HmAt h hp F μ ∧ ∀ (qs : List Way) μ', qs.Perm h.ways → sortedS (qs.map (·.1)) = true → (∀ b, μ b ≠ none → μ' b = μ b) → Q (.dat (planD h.rest h.names qs)) μ'
/-- a picture: its beat, each one's last -/
def picD (b : Int) (ls : List (Option Int)) : PyData := .tuple [.int b, .tuple (ls.map lastD)]
def d_law_picture_of : DOs := fun as μ Q => ∃ h hp F, as = [.mut hp] ∧ Shp h ∧ HmAt h hp F μ ∧ ∀ μ', (∀ b, μ b ≠ none → μ' b = μ b) → Q (.dat (picD h.beat (h.names.map h.last))) μ'
end
end K1


set_option maxHeartbeats 4000000
namespace K1
open PySem PySem.Spec PyProof.Rows L2 RZ DL
local macro_rules | `(tactic| walk_at "dl") => `(tactic| simp [and_assoc, mRet, mAnd, mOr, mCall, mCons, mVar, mCls, mNil, mC, oIsi, oIsi2, mNot, startD, mSeq, mIfS, mTOr, mTAnd, mTNot, mTest, mChain, mNext, oA1, oA2, oIB, oII, oII0, mOp, mUn, mAsg, mgName, mgTup, mgCons_c, mgNil_n, zipAs_l, zipAs_t, oSl_l, oSl_t, oSl_s, oSl_r, mPart, mSl, mIf, wipeD, oSign, oSS, oLen, LenD_s, LenD_l, LenD_t, LenD_m, miZ, miS, miT, miL, miE, miR, oEq, oNe, eqD_i, eqD_b, eqD_s, oInT, oIx, ixD_l, ixD_t, ixD_s, ixD_m, ix0, ix1, ix2, ix3, oAbs, oInt, oMax, oMin, mPar, mPar3, mTup, mLst, mLstM, asD, mExpr, itemsD_l, itemsD_t, oNeg, mgSub, mset_same, mIsN, mDrp, mTIsN, oEqW, eqW_n, eqW_b, eqW_i, eqW_s, non_n, non_b, non_i, non_s, non_l, non_t, miR2, mDNew, mDGet, mDPut, mDisp, mPairs, kD_s, kD_i, isStr, isTup, isLst, isBool, DL.isInt, mAppend, mDPop, oNeE, miM, DL.HoldL, mDIn, mDictZip, oRepU, mListZip, oDictP, mCallP, pick])
section
variable {P : Program} {w : World} {K : PySem.W.Frag} {mg : Str → Option Value} {base : Heap}
def isNum : PyData → Bool
  | .int _ => true
  | _ => false
def d_is_number : DOs := fun as μ Q => ∃ d, as = [.dat d] ∧ Q (.dat (.bool (isNum d))) μ
def numIn (a b : Int) : PyData → Bool
  | .int i => decide (a ≤ i) && decide (i ≤ b)
  | _ => false
def d_is_number_within : DOs := fun as μ Q => ∃ d a b, as = [.dat d, .dat (.int a), .dat (.int b)] ∧ Q (.dat (.bool (numIn a b d))) μ
def tupIn (a b : Int) : PyData → Bool
  | .tuple ds => decide (a ≤ (ds.length : Int)) && decide ((ds.length : Int) ≤ b)
  | _ => false
def d_is_tuple_within : DOs := fun as μ Q => ∃ d a b, as = [.dat d, .dat (.int a), .dat (.int b)] ∧ Q (.dat (.bool (tupIn a b d))) μ
theorem flat_rep {α : Type} (a : α) : ∀ n : Nat, (List.replicate n [a]).flatten = List.replicate n a
  | 0 => rfl
  | n + 1 => by rw [List.replicate_succ, List.flatten_cons, flat_rep a n, List.replicate_succ]; rfl
theorem ixP0 {r : Int} {ns : List Str} {qs : List Way} {μ : Mu} {x : AV} : ixD (.dat (planD r ns qs)) μ 0 x ↔ x = .dat (.int r) := by unfold planD; simp [ixD_t, ix0]
theorem ixP1 {r : Int} {ns : List Str} {qs : List Way} {μ : Mu} {x : AV} : ixD (.dat (planD r ns qs)) μ 1 x ↔ x = .dat (.tuple (ns.map PyData.str)) := by unfold planD; simp [ixD_t, ix1]
theorem ixP2 {r : Int} {ns : List Str} {qs : List Way} {μ : Mu} {x : AV} : ixD (.dat (planD r ns qs)) μ 2 x ↔ x = .dat (.tuple (qs.map rowD)) := by unfold planD; simp [ixD_t, ix2]
theorem ixQ0 {b : Int} {ls : List (Option Int)} {μ : Mu} {x : AV} : ixD (.dat (picD b ls)) μ 0 x ↔ x = .dat (.int b) := by unfold picD; simp [ixD_t, ix0]
theorem ixQ1 {b : Int} {ls : List (Option Int)} {μ : Mu} {x : AV} : ixD (.dat (picD b ls)) μ 1 x ↔ x = .dat (.tuple (ls.map lastD)) := by unfold picD; simp [ixD_t, ix1]
def d_begun : DOs := fun as μ Q => ∃ r ns qs, as = [.dat (planD r ns qs)] ∧ 1 ≤ ns.length ∧ ns.length ≤ 8 ∧ Q (.dat (picD 0 (List.replicate ns.length none))) μ
/-- lasts by names -/
def lastKV (ns : List Str) (last : Str → Option Int) : List (Key × AV) := ns.map fun s => (.inr s, .dat (lastD (last s)))
theorem keys_strs (ns : List Str) : ns.map PyData.str = (ns.map fun s => (.inr s : Key)).map kD := by
  rw [List.map_map]
  rfl
theorem merge_names {ns : List Str} (hn : ns.Nodup) (g : Str → PyData) : mergeA (((ns.map fun s => (.inr s : Key)).zip (ns.map g)).map fun q => (q.1, .dat q.2)) = ns.map fun s => ((.inr s, .dat (g s)) : Key × AV) := by
  have e : ((ns.map fun s => (.inr s : Key)).zip (ns.map g)).map (fun q => ((q.1, .dat q.2) : Key × AV)) = ns.map fun s => ((.inr s, .dat (g s)) : Key × AV) := by
    rw [List.zip_map', List.map_map]
    rfl
  rw [e]
  refine merge_nodup ?_
  rw [List.map_map]
  exact List.pairwise_map.mpr (hn.imp fun h e => h (Sum.inr.inj e))
def d_lasts_by_caller : DOs := fun as μ Q => ∃ r ns qs b last, as = [.dat (planD r ns qs), .dat (picD b (ns.map last))] ∧ ns.Nodup ∧ ∀ p, μ p = none → Q (.mut p) (mset μ p (some (.dK (lastKV ns last))))
theorem ok_lasts_by_caller (T : Txt K mg) {f : Addr} {fd : FuncData} (D : DefAt K mg "lasts_by_caller" s_lasts_by_caller ["plan", "picture"] f fd) : Prm P w K mg base 1 "lasts_by_caller" 2 d_lasts_by_caller := by
  refine prm_of D sc_lasts_by_caller rfl (fun as μ Q ⟨r, ns, qs, b, last, e, _⟩ => by rw [e]; rfl) fun cdv A out s H hr hg => ⟨_, _,
(db_one (ds_ret (de_dictZip rfl (by rfl) T.n_dict (by rfl) T.n_zip (da_cons (de_ix (de_var (pv 0)) de_int (fun _ _ => rfl)) (da_cons (de_ix (de_var (pv 1)) de_int (fun _ _ => rfl)) da_nil)))))
    , fun as μ Q ⟨r, ns, qs, b, last, e, hn, q⟩ => ?_⟩
  subst e
  walk_at "dl"
  refine ⟨_, ixP1.mpr rfl, _, ixQ1.mpr rfl, _, rfl, _, rfl, ns.map fun s => .inr s, by rw [itemsD_t, keys_strs], _, rfl, by simp, fun p hp => ?_⟩
  rw [List.map_map, merge_names hn]
  exact q p hp
def d_free_beats : DOs := fun as μ Q => ∃ r ns qs b last, as = [.dat (planD r ns qs), .dat (picD b (ns.map last))] ∧ ns.length ≤ 8 ∧ Q (.dat (.list (ns.map fun s => .int (frB b r (last s))))) μ
def d_is_on_its_way : DOs := fun as μ Q => ∃ b los o β, as = [.dat (picD b los), .dat (lastD o), .dat (.int β)] ∧ Q (.dat (.bool (decide (∃ l, o = some l ∧ b < l + β)))) μ
theorem ok_is_on_its_way (T : Txt K mg) {f : Addr} {fd : FuncData} (D : DefAt K mg "_is_on_its_way" s_is_on_its_way ["picture", "last", "beats"] f fd) : Prm P w K mg base 1 "_is_on_its_way" 3 d_is_on_its_way := by
  refine prm_of D sc_is_on_its_way rfl (fun as μ Q ⟨b, los, o, β, e, _⟩ => by rw [e]; rfl) fun cdv A out s H hr hg => ⟨_, _,
(db_one (ds_ret (de_and (de_notN (de_var (pv 1))) (de_one (de_cmp op_gt so_IB (de_op op_add so_II0 (de_var (pv 1)) (de_var (pv 2))) (de_ix (de_var (pv 0)) de_int (fun _ _ => rfl)))))))
    , fun as μ Q ⟨b, los, o, β, e, q⟩ => ?_⟩
  subst e
  walk_at "dl"
  cases o with
  | none => exact .inl ⟨rfl, by simpa using q⟩
  | some l => exact .inr ⟨rfl, l, rfl, _, ixQ0.mpr rfl, _, rfl, by simpa using q⟩
open Classical in
/-- who owes by a way -/
noncomputable def owerD (b β : Int) (last : Str → Option Int) (one other : Str) : PyData := if owes b β (last one) (last other) then .str one else if owes b β (last other) (last one) then .str other else .none
def d_who_owes : DOs := fun as μ Q => ∃ r ns qs b last nm one other β, as = [.dat (planD r ns qs), .dat (picD b (ns.map last)), .dat (rowD (nm, one, other, β))] ∧ ns.Nodup ∧ one ∈ ns ∧ other ∈ ns ∧ Q (.dat (owerD b β last one other)) μ
theorem ok_who_owes (T : Txt K mg) (p_lasts_by_caller : Prm P w K mg base 1 "lasts_by_caller" 2 d_lasts_by_caller) (p_is_on_its_way : Prm P w K mg base 1 "_is_on_its_way" 3 d_is_on_its_way) {f : Addr} {fd : FuncData} (D : DefAt K mg "who_owes" s_who_owes ["plan", "picture", "way"] f fd) : Prm P w K mg base 2 "who_owes" 3 d_who_owes := by
  refine prm_of D sc_who_owes rfl (fun as μ Q ⟨r, ns, qs, b, last, nm, one, other, β, e, _⟩ => by rw [e]; rfl) fun cdv A out s H hr hg => ⟨_, _,
(db_cons (ds_asg (vs := [3, 4, 5, 6]) (de_var (pv 2)) (dg_tup (K := K) (n := 4) rfl rfl (dgs_cons (dg_name (pg_name (i := 3) sc_who_owes.nd rfl (by first | exact Or.inl rfl | exact Or.inr rfl)) (by decide)) (dgs_cons (dg_name (pg_name (i := 4) sc_who_owes.nd rfl (by first | exact Or.inl rfl | exact Or.inr rfl)) (by decide)) (dgs_cons (dg_name (pg_name (i := 5) sc_who_owes.nd rfl (by first | exact Or.inl rfl | exact Or.inr rfl)) (by decide)) (dgs_cons (dg_name (pg_name (i := 6) sc_who_owes.nd rfl (by first | exact Or.inl rfl | exact Or.inr rfl)) (by decide)) dgs_nil))))))
    (db_cons (ds_setE (i := 7) sc_who_owes.nd rfl (by first | exact Or.inl rfl | exact Or.inr rfl) (de_call p_lasts_by_caller (hr.mono (by omega)) hg (by rfl) (da_cons (de_var (pv 0)) (da_cons (de_var (pv 1)) da_nil))))
    (db_cons (ds_for (vs := [8, 9]) PassesOwn.never rfl (di_tup (de_tup (da_cons (de_tup (da_cons (de_var (pv 4)) (da_cons (de_var (pv 5)) da_nil))) (da_cons (de_tup (da_cons (de_var (pv 5)) (da_cons (de_var (pv 4)) da_nil))) da_nil)))) (dg_tup (K := K) (n := 2) rfl rfl (dgs_cons (dg_name (pg_name (i := 8) sc_who_owes.nd rfl (by first | exact Or.inl rfl | exact Or.inr rfl)) (by decide)) (dgs_cons (dg_name (pg_name (i := 9) sc_who_owes.nd rfl (by first | exact Or.inl rfl | exact Or.inr rfl)) (by decide)) dgs_nil))) (db_one (ds_if (dt_val (de_call p_is_on_its_way (hr.mono (by omega)) hg (by rfl) (da_cons (de_var (pv 1)) (da_cons (de_dget (hu_of hr) (de_var (pv 7)) (de_var (pv 9)) (fun _ _ => rfl)) (da_cons (de_var (pv 6)) da_nil))))) (db_one (ds_if (DW.dt (dw_or (dt_isN (de_dget (hu_of hr) (de_var (pv 7)) (de_var (pv 8)) (fun _ _ => rfl))) (dw_or1 (dt_cmp op_lt so_IB (de_dget (hu_of hr) (de_var (pv 7)) (de_var (pv 8)) (fun _ _ => rfl)) (de_op op_sub so_II0 (de_dget (hu_of hr) (de_var (pv 7)) (de_var (pv 9)) (fun _ _ => rfl)) (de_var (pv 6))))))) (db_one (ds_ret (de_drp (de_var (pv 8))))) db_nil)) db_nil)))
    (db_one (ds_ret (de_drp de_non))))))
    , fun as μ Q ⟨r, ns, qs, b, last, nm, one, other, β, e, hn, h1, h2, q⟩ => ?_⟩
  subst e
  have hsl : sizeLine = 16777216 := sizeLine_eq
  unfold rowD
  walk_at "dl"
  refine ⟨r, ns, qs, b, last, rfl, hn, fun p hp => ?_⟩
  obtain ⟨μ1, hμ1⟩ : ∃ μ1, μ1 = mset μ p (some (.dK (lastKV ns last))) := ⟨_, rfl⟩
  have hd1 : mset μ1 p none = μ := by rw [hμ1, mset_none hp]
  have hp1 : μ1 p = some (.dK (lastKV ns last)) := by rw [hμ1, mset_same]
  have vl : ∀ c, c ∈ ns → valA (lastKV ns last) (.inr c) = some (.dat (lastD (last c))) := fun c hc => valA_map (f := fun s => s) (g := fun s => .dat (lastD (last s))) (by simpa using hn) hc
  rw [← hμ1]
  refine for_by [.tuple [.str one, .str other], .tuple [.str other, .str one]] (fun R r => by walk_at "dl"; exact ⟨by omega, r⟩)
    (fun i δ μ' => μ' = μ1 ∧ (∃ x y, δ = [some (AV.dat (planD r ns qs)), some (AV.dat (picD b (List.map last ns))), some (AV.dat (PyData.tuple [PyData.str nm, PyData.str one, PyData.str other, PyData.int β])), some (AV.dat (PyData.str nm)), some (AV.dat (PyData.str one)), some (AV.dat (PyData.str other)), some (AV.dat (PyData.int β)), some (.mut p), x, y]) ∧ (1 ≤ i → ¬ owes b β (last one) (last other)) ∧ (2 ≤ i → ¬ owes b β (last other) (last one))) ⟨rfl, ⟨_, _, rfl⟩, by omega, by omega⟩ ?_ ?_
  · intro i d δ' μ' hd ⟨w1, ⟨x, y, w2⟩, w3, w4⟩
    subst w1 w2
    have hi : i = 0 ∨ i = 1 := by
      have := (List.getElem?_eq_some_iff.mp hd).1
      simp at this
      omega
    rcases hi with rfl | rfl
    · obtain rfl : PyData.tuple [.str one, .str other] = d := by simpa using hd
      have qo : owes b β (last one) (last other) → Q (.dat (.str one)) μ := fun z => by
        unfold owerD at q
        rw [if_pos z] at q
        exact q
      walk_at "dl"
      refine ⟨_, hp1, _, vl other h2, b, ns.map last, last other, β, rfl, ?_⟩
      by_cases c1 : ∃ l, last other = some l ∧ b < l + β
      · refine .inr ⟨by rw [decide_eq_true c1], _, hp1, _, vl one h1, _, rfl, ?_⟩
        obtain ⟨m, em, hm⟩ := c1
        rw [isNon_last]
        cases eh : last one with
        | none =>
          have ow : owes b β (last one) (last other) := by rw [eh, em]; exact hm
          rw [if_pos (by simp)]
          exact ⟨p, by rw [hd1]; exact qo ow⟩
        | some l =>
          rw [if_neg (by simp)]
          refine ⟨_, hp1, _, vl one h1, _, hp1, _, vl other h2, m, by rw [em]; rfl, l, by rw [eh]; rfl, ?_⟩
          by_cases c2 : l < m - β
          · have ow : owes b β (last one) (last other) := by rw [eh, em]; exact ⟨hm, c2⟩
            rw [if_pos c2]
            exact ⟨p, by rw [hd1]; exact qo ow⟩
          · have nw : ¬ owes b β (last one) (last other) := by rw [eh, em]; exact fun z => c2 z.2
            rw [if_neg c2, ← eh]
            exact ⟨rfl, nw⟩
      · have nw : ¬ owes b β (last one) (last other) := fun z => c1 (by
          cases em : last other with
          | none => rw [em] at z; cases eh : last one <;> rw [eh] at z <;> exact z.elim
          | some m =>
            rw [em] at z
            refine ⟨m, rfl, ?_⟩
            cases eh : last one <;> rw [eh] at z
            · exact z
            · exact z.1)
        refine .inl ⟨by rw [decide_eq_false c1], ?_⟩
        exact ⟨rfl, nw⟩
    · obtain rfl : PyData.tuple [.str other, .str one] = d := by simpa using hd
      have n0 := w3 (by omega)
      have qo : owes b β (last other) (last one) → Q (.dat (.str other)) μ := fun z => by
        unfold owerD at q
        rw [if_neg n0, if_pos z] at q
        exact q
      walk_at "dl"
      refine ⟨_, hp1, _, vl one h1, b, ns.map last, last one, β, rfl, ?_⟩
      by_cases c1 : ∃ l, last one = some l ∧ b < l + β
      · refine .inr ⟨by rw [decide_eq_true c1], _, hp1, _, vl other h2, _, rfl, ?_⟩
        obtain ⟨m, em, hm⟩ := c1
        rw [isNon_last]
        cases eh : last other with
        | none =>
          have ow : owes b β (last other) (last one) := by rw [eh, em]; exact hm
          rw [if_pos (by simp)]
          exact ⟨p, by rw [hd1]; exact qo ow⟩
        | some l =>
          rw [if_neg (by simp)]
          refine ⟨_, hp1, _, vl other h2, _, hp1, _, vl one h1, m, by rw [em]; rfl, l, by rw [eh]; rfl, ?_⟩
          by_cases c2 : l < m - β
          · have ow : owes b β (last other) (last one) := by rw [eh, em]; exact ⟨hm, c2⟩
            rw [if_pos c2]
            exact ⟨p, by rw [hd1]; exact qo ow⟩
          · have nw : ¬ owes b β (last other) (last one) := by rw [eh, em]; exact fun z => c2 z.2
            rw [if_neg c2, ← eh]
            exact ⟨rfl, n0, nw⟩
      · have nw : ¬ owes b β (last other) (last one) := fun z => c1 (by
          cases em : last one with
          | none => rw [em] at z; cases eh : last other <;> rw [eh] at z <;> exact z.elim
          | some m =>
            rw [em] at z
            refine ⟨m, rfl, ?_⟩
            cases eh : last other <;> rw [eh] at z
            · exact z
            · exact z.1)
        refine .inl ⟨by rw [decide_eq_false c1], ?_⟩
        exact ⟨rfl, n0, nw⟩
  · intro δ' μ' ⟨w1, ⟨x, y, w2⟩, w3, w4⟩
    subst w1 w2
    walk_at "dl"
    refine ⟨p, ?_⟩
    rw [hd1]
    unfold owerD at q
    rw [if_neg (w3 (by simp)), if_neg (w4 (by simp))] at q
    exact q
theorem bq {Q : DV} {μ : Mu} {a b : Bool} (h : a = b) (q : Q (.dat (.bool a)) μ) : Q (.dat (.bool b)) μ := h ▸ q
theorem in_step_not {b r β : Int} {la lb : Option Int} (h1 : ¬ owes b β la lb) (h2 : ¬ owes b β lb la) : inStep b r β la lb ↔ (((frB b r la - frB b r lb).natAbs : Nat) : Int) ≤ β := by
  unfold inStep
  constructor
  · intro ⟨_, _, h⟩
    have := h h1 h2
    omega
  · intro h
    exact ⟨fun z => absurd z h1, fun z => absurd z h2, fun _ _ => by omega⟩
theorem owes_one {b β : Int} {la lb : Option Int} (hβ : 0 ≤ β) (h : owes b β la lb) : ¬ owes b β lb la := by
  cases la <;> cases lb <;> simp only [owes] at h ⊢ <;> first | exact h.elim | (intro z; first | exact z.elim | omega) | trivial
theorem in_step_owe {b r β : Int} {la lb : Option Int} (hβ : 0 ≤ β) (h : owes b β la lb) : inStep b r β la lb ↔ frB b r la ≤ lb.getD 0 + β := by
  unfold inStep
  have := owes_one hβ h
  exact ⟨fun z => z.1 h, fun z => ⟨fun _ => z, fun y => absurd y this, fun y => absurd h y⟩⟩
theorem in_step_owe2 {b r β : Int} {la lb : Option Int} (hβ : 0 ≤ β) (h : owes b β lb la) : inStep b r β la lb ↔ frB b r lb ≤ la.getD 0 + β := by
  unfold inStep
  have := owes_one hβ h
  exact ⟨fun z => z.2.1 h, fun z => ⟨fun y => absurd y this, fun _ => z, fun _ y => absurd h y⟩⟩
theorem owes_some {b β : Int} {la lb : Option Int} (h : owes b β la lb) : ∃ l, lb = some l := by
  cases lb with
  | none => cases la <;> exact h.elim
  | some l => exact ⟨l, rfl⟩
open Classical in
noncomputable def stepB (b r β : Int) (la lb : Option Int) : Bool := decide (inStep b r β la lb)
def d_is_in_step : DOs := fun as μ Q => ∃ r ns qs b last nm one other β, as = [.dat (planD r ns qs), .dat (picD b (ns.map last)), .dat (rowD (nm, one, other, β))] ∧ ns.Nodup ∧ ns.length ≤ 8 ∧ one ∈ ns ∧ other ∈ ns ∧ one ≠ other ∧ 0 ≤ β ∧ Q (.dat (.bool (stepB b r β (last one) (last other)))) μ
def lastOk (b : Int) : PyData → Bool
  | .none => true
  | .int i => decide (0 ≤ i) && decide (i ≤ b)
  | _ => false
def lastsOk (n : Nat) (b : Int) : PyData → Bool
  | .tuple ls => decide (ls.length = n) && ls.all (lastOk b)
  | _ => false
def d_are_lasts : DOs := fun as μ Q => ∃ r ns qs b d, as = [.dat (planD r ns qs), .dat (.int b), .dat d] ∧ ns.length ≤ 8 ∧ Q (.dat (.bool (lastsOk ns.length b d))) μ
def lastI : PyData → Option Int
  | .int i => some i
  | _ => none
/-- a thing's last call of c -/
def lastIn (ns : List Str) (ls : List PyData) (c : Str) : Option Int := ((ns.zip ls).find? fun q => decide (q.1 = c)).bind fun q => lastI q.2
theorem lastD_lastI {b : Int} {d : PyData} (h : lastOk b d = true) : lastD (lastI d) = d := by
  cases d <;> simp [lastOk] at h <;> rfl
theorem lasts_in {b : Int} : ∀ {ns : List Str} {ls : List PyData}, ns.Nodup → ls.length = ns.length → ls.all (lastOk b) = true → ls = (ns.map (lastIn ns ls)).map lastD
  | [], [], _, _, _ => rfl
  | n :: ns, l :: ls, hn, hl, h => by
    rw [List.nodup_cons] at hn
    simp only [List.all_cons, Bool.and_eq_true] at h
    have ih := lasts_in (ns := ns) (ls := ls) hn.2 (by simpa using hl) h.2
    have e0 : lastIn (n :: ns) (l :: ls) n = lastI l := by simp [lastIn]
    have e1 : ∀ c ∈ ns, lastIn (n :: ns) (l :: ls) c = lastIn ns ls c := fun c hc => by
      have : ¬ n = c := fun z => hn.1 (by rw [z]; exact hc)
      simp [lastIn, this]
    rw [List.map_cons, List.map_cons, e0, lastD_lastI h.1, List.map_congr_left e1, ← ih]
  | [], _ :: _, _, hl, _ => by simp at hl
  | _ :: _, [], _, hl, _ => by simp at hl
/-- what a picture of a plan is -/
noncomputable def isPic (r : Int) (ns : List Str) (qs : List Way) : PyData → Bool
  | .tuple [.int b, ls] => decide (0 ≤ b) && lastsOk ns.length b ls && (match ls with | .tuple ls => qs.all fun q => stepB b r q.2.2.2 (lastIn ns ls q.2.1) (lastIn ns ls q.2.2.1) | _ => false)
  | _ => false
noncomputable def stepD (b r : Int) (last : Str → Option Int) : PyData → Bool
  | .tuple [.str _, .str one, .str other, .int β] => stepB b r β (last one) (last other)
  | _ => false
structure PlanOk (ns : List Str) (qs : List Way) : Prop where
  nd : ns.Nodup
  n8 : ns.length ≤ 8
  q10 : qs.length ≤ 10
  ends : ∀ q ∈ qs, q.2.1 ∈ ns ∧ q.2.2.1 ∈ ns ∧ q.2.1 ≠ q.2.2.1 ∧ 1 ≤ q.2.2.2 ∧ q.2.2.2 ≤ 6
def d_is_picture : DOs := fun as μ Q => ∃ r ns qs d, as = [.dat (planD r ns qs), .dat d] ∧ PlanOk ns qs ∧ Q (.dat (.bool (isPic r ns qs d))) μ
end
end K1


set_option maxHeartbeats 4000000
namespace K1
open PySem PySem.Spec PyProof.Rows L2 RZ DL
local macro_rules | `(tactic| walk_at "dl") => `(tactic| simp [and_assoc, mRet, mAnd, mOr, mCall, mCons, mVar, mCls, mNil, mC, oIsi, oIsi2, mNot, startD, mSeq, mIfS, mTOr, mTAnd, mTNot, mTest, mChain, mNext, oA1, oA2, oIB, oII, oII0, mOp, mUn, mAsg, mgName, mgTup, mgCons_c, mgNil_n, zipAs_l, zipAs_t, oSl_l, oSl_t, oSl_s, oSl_r, mPart, mSl, mIf, wipeD, oSign, oSS, oLen, LenD_s, LenD_l, LenD_t, LenD_m, miZ, miS, miT, miL, miE, miR, oEq, oNe, eqD_i, eqD_b, eqD_s, oInT, oIx, ixD_l, ixD_t, ixD_s, ixD_m, ix0, ix1, ix2, ix3, oAbs, oInt, oMax, oMin, mPar, mPar3, mTup, mLst, mLstM, asD, mExpr, itemsD_l, itemsD_t, oNeg, mgSub, mset_same, mIsN, mDrp, mTIsN, oEqW, eqW_n, eqW_b, eqW_i, eqW_s, non_n, non_b, non_i, non_s, non_l, non_t, miR2, mDNew, mDGet, mDPut, mDisp, mPairs, kD_s, kD_i, isStr, isTup, isLst, isBool, DL.isInt, mAppend, mDPop, oNeE, miM, DL.HoldL, mDIn, mDictZip, oRepU, mListZip, oDictP, mCallP, pick, oNotB, mExtend, oSortA, oSortAM, mTupM, oIxT, mgTupC, mCallB, miD, miC, mGh, miMix, Sk.dat, mUpdate, mItems, oDictD, oListM, oListC, oRepL, oSortT])
section
variable {P : Program} {w : World} {K : PySem.W.Frag} {mg : Str → Option Value} {base : Heap}
/-- a call that's on its way from x to y by w -/
def onX (b β : Int) (lx : Option Int) (y w : Str) : List ARow := match lx with
  | some l => if b < l + β then [(l + β, y, w)] else []
  | none => []
/-- the calls on their ways by one way -/
def onQ (b : Int) (last : Str → Option Int) (q : Way) : List ARow := onX b q.2.2.2 (last q.2.1) q.2.2.1 q.1 ++ onX b q.2.2.2 (last q.2.2.1) q.2.1 q.1
def onW (b : Int) (last : Str → Option Int) (qs : List Way) : List ARow := qs.flatMap (onQ b last)
def le3 (a b : ARow) : Bool := leD (rowD3 a) (rowD3 b)
def srt3 (rows : List ARow) : List ARow := rows.mergeSort le3
theorem srt3_map (rows : List ARow) : srtD (rows.map rowD3) = (srt3 rows).map rowD3 := (List.map_mergeSort (f := rowD3) (r := le3) (s := leD) (l := rows) fun _ _ _ _ => rfl).symm
theorem onX_len {b β : Int} {lx : Option Int} {y w : Str} : (onX b β lx y w).length ≤ 1 := by
  unfold onX
  cases lx with
  | none => simp
  | some l => dsimp only; split <;> simp
theorem onQ_len {b : Int} {last : Str → Option Int} {q : Way} : (onQ b last q).length ≤ 2 := by
  unfold onQ
  rw [List.length_append]
  have := onX_len (b := b) (β := q.2.2.2) (lx := last q.2.1) (y := q.2.2.1) (w := q.1)
  have := onX_len (b := b) (β := q.2.2.2) (lx := last q.2.2.1) (y := q.2.1) (w := q.1)
  omega
theorem onW_len {b : Int} {last : Str → Option Int} : ∀ {qs : List Way}, (onW b last qs).length ≤ 2 * qs.length
  | [] => by simp [onW]
  | q :: qs => by
    have := onQ_len (b := b) (last := last) (q := q)
    have := onW_len (b := b) (last := last) (qs := qs)
    show ((onQ b last q) ++ onW b last qs).length ≤ _
    rw [List.length_append, List.length_cons]
    omega
theorem rows_sortable (rows : List ARow) : PySem.W.AllAlike (rows.map rowD3) ∧ PySem.W.Sortable (rows.map rowD3) ∧ ∀ d ∈ rows.map rowD3, d.depth ≤ 60 :=
  ⟨PySem.W.AllAlike.of fun r r' => alike_row3 r r', PySem.W.Sortable.tuples fun _ => ⟨_, _, rfl⟩, fun d hd => by
    obtain ⟨r, _, rfl⟩ := List.mem_map.mp hd
    simp [rowD3, PyData.depth, PyData.depthAll]⟩
def d_on_ways : DOs := fun as μ Q => ∃ r ns qs b last, as = [.dat (planD r ns qs), .dat (picD b (ns.map last))] ∧ ns.Nodup ∧ (∀ q ∈ qs, q.2.1 ∈ ns ∧ q.2.2.1 ∈ ns) ∧ qs.length ≤ 10 ∧ ∀ p, μ p = none → Q (.mut p) (mset μ p (cellA ((srt3 (onW b last qs)).map rowD3)))
theorem zip_map2 {α : Type} (f g : α → PyData) : ∀ xs : List α, zipD (xs.map f) (xs.map g) = xs.map fun x => PyData.tuple [f x, g x]
  | [] => rfl
  | x :: xs => by rw [List.map_cons, List.map_cons, List.map_cons, ← zip_map2 f g xs]; rfl
theorem memD_strs (c : Str) : ∀ l : List Str, memD (l.map PyData.str) (.str c) = decide (c ∈ l)
  | [] => by simp [memD]
  | x :: l => by
    have ih := memD_strs c l
    unfold memD at ih ⊢
    rw [List.map_cons, List.any_cons, ih]
    by_cases e : c = x
    · subst e; simp [PyData.eqv]
    · have e' : ¬ x = c := fun z => e z.symm
      simp [PyData.eqv, e, e']
theorem shaped_strs {l : List Str} (h : ∀ s ∈ l, nmOk s) : SeqAt.shaped (.list (l.map PyData.str)) = true := by
  refine fine_shaped (n := 0) ?_ ?_
  · simp only [fine]
    refine fineAll_iff.mpr fun x hx => ?_
    obtain ⟨s, hs, rfl⟩ := List.mem_map.mp hx
    exact nm_fine (h s hs)
  · have : PyData.depthAll (l.map PyData.str) ≤ 0 := depthAll_le fun x hx => by
      obtain ⟨s, _, rfl⟩ := List.mem_map.mp hx
      simp [PyData.depth]
    simp only [PyData.depth]
    omega
theorem mem_onX {b β : Int} {lx : Option Int} {y w : Str} {r : ARow} : r ∈ onX b β lx y w ↔ lx = some (r.1 - β) ∧ b < r.1 ∧ r.2 = (y, w) := by
  unfold onX
  cases lx with
  | none => simp
  | some l =>
    dsimp only
    split
    · rename_i h
      rw [List.mem_singleton]
      constructor
      · rintro rfl
        exact ⟨by congr 1; omega, by omega, rfl⟩
      · rintro ⟨e1, e2, e3⟩
        have := Option.some.inj e1
        obtain ⟨r1, r2⟩ := r
        simp only at e3 this ⊢
        subst e3
        congr 1
        omega
    · rename_i h
      simp only [List.not_mem_nil, false_iff]
      rintro ⟨e1, e2, _⟩
      have := Option.some.inj e1
      omega
theorem mem_onW {b : Int} {last : Str → Option Int} {qs : List Way} {r : ARow} : r ∈ onW b last qs ↔ ∃ x β, sends qs x r.2.1 r.2.2 β ∧ last x = some (r.1 - β) ∧ b < r.1 := by
  unfold onW
  rw [List.mem_flatMap]
  constructor
  · rintro ⟨q, hq, h⟩
    unfold onQ at h
    rcases List.mem_append.mp h with h | h
    · obtain ⟨e1, e2, e3⟩ := mem_onX.mp h
      exact ⟨q.2.1, q.2.2.2, ⟨q, hq, by rw [e3], rfl, .inl ⟨rfl, by rw [e3]⟩⟩, e1, e2⟩
    · obtain ⟨e1, e2, e3⟩ := mem_onX.mp h
      exact ⟨q.2.2.1, q.2.2.2, ⟨q, hq, by rw [e3], rfl, .inr ⟨rfl, by rw [e3]⟩⟩, e1, e2⟩
  · rintro ⟨x, β, ⟨q, hq, h1, h2, h3⟩, e1, e2⟩
    refine ⟨q, hq, ?_⟩
    unfold onQ
    rw [List.mem_append]
    rcases h3 with ⟨h3, h4⟩ | ⟨h3, h4⟩
    · exact .inl (mem_onX.mpr ⟨by rw [h2, h3]; exact e1, e2, by rw [h1, h4]⟩)
    · exact .inr (mem_onX.mpr ⟨by rw [h2, h3]; exact e1, e2, by rw [h1, h4]⟩)
theorem srt3_mem {rows : List ARow} {r : ARow} : r ∈ srt3 rows ↔ r ∈ rows := (List.mergeSort_perm rows le3).mem_iff
theorem hears_onW {b : Int} {last : Str → Option Int} {qs : List Way} {c : Str} : hears qs last (b + 1) c ↔ c ∈ ((srt3 (onW b last qs)).filter fun w => decide (w.1 = b + 1)).map (·.2.1) := by
  rw [List.mem_map]
  constructor
  · rintro ⟨x, w, β, s, e⟩
    exact ⟨(b + 1, c, w), List.mem_filter.mpr ⟨srt3_mem.mpr (mem_onW.mpr ⟨x, β, s, e, by show b < b + 1; omega⟩), decide_eq_true rfl⟩, rfl⟩
  · rintro ⟨⟨t, y, w⟩, h, rfl⟩
    obtain ⟨h1, h2⟩ := List.mem_filter.mp h
    have e := of_decide_eq_true h2
    simp only at e
    subst e
    obtain ⟨x, β, s, e, _⟩ := mem_onW.mp (srt3_mem.mp h1)
    exact ⟨x, w, β, s, e⟩
def d_calling : DOs := fun as μ Q => ∃ r ns qs b last, as = [.dat (planD r ns qs), .dat (picD b (ns.map last)), .dat (.int (b + 1))] ∧ PlanOk ns qs ∧ (∀ s ∈ ns, nmOk s) ∧ Q (.dat (.list ((callers qs r last (b + 1) ns).map PyData.str))) μ
def d_next_picture : DOs := fun as μ Q => ∃ r ns qs b last, as = [.dat (planD r ns qs), .dat (picD b (ns.map last))] ∧ PlanOk ns qs ∧ (∀ s ∈ ns, nmOk s) ∧ Q (.dat (picD (b + 1) (ns.map (stepAt qs r (b + 1) last)))) μ
def calledIn (ns : List Str) (last : Str → Option Int) (b : Int) : List Str := ns.filter fun c => decide (last c = some b)
def d_calls_in : DOs := fun as μ Q => ∃ r ns qs b last, as = [.dat (planD r ns qs), .dat (picD b (ns.map last))] ∧ ns.length ≤ 8 ∧ ∀ p, μ p = none → Q (.mut p) (mset μ p (cellA ((calledIn ns last b).map (callD b))))
theorem calledIn_step {qs : List Way} {r b : Int} {ns : List Str} {last : Str → Option Int} (hl : lasts b last) : calledIn ns (stepAt qs r (b + 1) last) (b + 1) = callers qs r last (b + 1) ns := by
  unfold calledIn callers
  refine List.filter_congr fun s _ => ?_
  refine decide_eq_decide.mpr ?_
  unfold stepAt
  split
  · rename_i c
    exact ⟨fun _ => c, fun _ => rfl⟩
  · rename_i c
    refine ⟨fun e => ?_, fun z => absurd z c⟩
    have := hl s _ e
    omega
def d_run : DOs := fun as μ Q => ∃ r ns qs b last n, as = [.dat (planD r ns qs), .dat (picD b (ns.map last)), .dat (.int (n : Nat))] ∧ PlanOk ns qs ∧ (∀ s ∈ ns, nmOk s) ∧ 0 ≤ b ∧ lasts b last ∧ n ≤ 100000 ∧
  ∀ pc pt, μ pc = none → μ pt = none → pt ≠ pc → Q (.mut pt) (mset (mset μ pc (cellA (callsD (runC qs r ns b n last)))) pt (some (.tup [.dat (picD (b + n) (ns.map (adv qs r b n last))), .mut pc])))
/-- .. as data -/
def d_runF : DOs := fun as μ Q => ∃ r ns qs b last n, as = [.dat (planD r ns qs), .dat (picD b (ns.map last)), .dat (.int (n : Nat))] ∧ PlanOk ns qs ∧ (∀ s ∈ ns, nmOk s) ∧ 0 ≤ b ∧ lasts b last ∧ n ≤ 100000 ∧
  Q (.dat (.tuple [picD (b + n) (ns.map (adv qs r b n last)), .list (callsD (runC qs r ns b n last))])) μ
theorem run_frz (p_run : Prm P w K mg base 5 "run" 3 d_run) : Prm P w K mg base 5 "run" 3 d_runF := p_run.via fun as μ Q ⟨r, ns, qs, b, last, n, e, po, nok, h0, hl, hn, q⟩ => ⟨r, ns, qs, b, last, n, e, po, nok, h0, hl, hn, fun pc pt h1 h2 ne => ⟨_, _, frz_pair (q := pc) mset_same (by rw [mset_ne ne.symm, mset_same]), by
  rw [mset_mset]
  refine cast ?_ q
  congr 1
  funext c
  simp only [mset]
  by_cases c1 : c = pc
  · subst c1; simp [h1]
  · by_cases c2 : c = pt
    · subst c2; simp [c1, h2]
    · simp [c1, c2]⟩⟩
def d_on_waysF : DOs := fun as μ Q => ∃ r ns qs b last, as = [.dat (planD r ns qs), .dat (picD b (ns.map last))] ∧ ns.Nodup ∧ (∀ q ∈ qs, q.2.1 ∈ ns ∧ q.2.2.1 ∈ ns) ∧ qs.length ≤ 10 ∧ Q (.dat (.list ((srt3 (onW b last qs)).map rowD3))) μ
theorem on_ways_frz (p : Prm P w K mg base 2 "on_ways" 2 d_on_ways) : Prm P w K mg base 2 "on_ways" 2 d_on_waysF := p.via fun as μ Q ⟨r, ns, qs, b, last, e, h1, h2, h3, q⟩ => ⟨r, ns, qs, b, last, e, h1, h2, h3, fun p hp => ⟨_, _, frz_lst mset_same, by rw [mset_none hp]; exact q⟩⟩
end
end K1


set_option maxHeartbeats 4000000
namespace K1
open PySem PySem.Spec PyProof.Rows L2 RZ DL
local macro_rules | `(tactic| walk_at "dl") => `(tactic| simp [and_assoc, mRet, mAnd, mOr, mCall, mCons, mVar, mCls, mNil, mC, oIsi, oIsi2, mNot, startD, mSeq, mIfS, mTOr, mTAnd, mTNot, mTest, mChain, mNext, oA1, oA2, oIB, oII, oII0, mOp, mUn, mAsg, mgName, mgTup, mgCons_c, mgNil_n, zipAs_l, zipAs_t, oSl_l, oSl_t, oSl_s, oSl_r, mPart, mSl, mIf, wipeD, oSign, oSS, oLen, LenD_s, LenD_l, LenD_t, LenD_m, miZ, miS, miT, miL, miE, miR, oEq, oNe, eqD_i, eqD_b, eqD_s, oInT, oIx, ixD_l, ixD_t, ixD_s, ixD_m, ix0, ix1, ix2, ix3, oAbs, oInt, oMax, oMin, mPar, mPar3, mTup, mLst, mLstM, asD, mExpr, itemsD_l, itemsD_t, oNeg, mgSub, mset_same, mIsN, mDrp, mTIsN, oEqW, eqW_n, eqW_b, eqW_i, eqW_s, non_n, non_b, non_i, non_s, non_l, non_t, miR2, mDNew, mDGet, mDPut, mDisp, mPairs, kD_s, kD_i, isStr, isTup, isLst, isBool, DL.isInt, mAppend, mDPop, oNeE, miM, DL.HoldL, mDIn, mDictZip, oRepU, mListZip, oDictP, mCallP, pick, oNotB, mExtend, oSortA, oSortAM, mTupM, oIxT, mgTupC, mCallB, miD, miC, mGh, miMix, Sk.dat, mUpdate, mItems, oDictD, oListM, oListC, oRepL, oSortT])
/-! a plan, pictures and calls as data of a size that's told -/
theorem plan_of_ok {h : Hm} (o : h.Ok) {qs : List Way} (hp : qs.Perm h.ways) : PlanOk h.names qs :=
  ⟨o.nodup, o.len8, by rw [hp.length_eq]; exact o.wlen, fun q hq => by
    have hq' := hp.mem_iff.mp hq
    obtain ⟨h1, h2, h3, h4⟩ := o.wat q hq'
    obtain ⟨g1, g2, g3⟩ := o.w.wok q hq'
    exact ⟨h1, h2, g1, g2, h3⟩⟩
theorem nm_fine2 {n : Nat} {s : Str} (h : nmOk s) : fine n (.str s) = true := fine_mono (Nat.zero_le n) (nm_fine h)
theorem small_int {i : Int} (h : i.natAbs ≤ 1000) : fine 0 (.int i) = true := by
  simp only [fine, decide_eq_true_eq]
  exact Nat.le_trans h (by decide)
theorem sz_strs : ∀ ys : List Str, szAll (ys.map PyData.str) = ys.length
  | [] => rfl
  | _ :: ys => by
    simp only [List.map_cons, szAll, sz, sz_strs ys, List.length_cons]
    omega
theorem sz_rows : ∀ ws : List Way, szAll (ws.map rowD) = 5 * ws.length
  | [] => rfl
  | w :: ws => by
    simp only [List.map_cons, szAll, rowD, sz, sz_rows ws, List.length_cons]
    omega
theorem plan_okD {h : Hm} (o : h.Ok) {qs : List Way} (hp : qs.Perm h.ways) : Ok 0 150 5 (planD h.rest h.names qs) := by
  have r3 := o.rest3
  have r24 := o.rest24
  have n8 := o.len8
  have w10 := o.wlen
  have hl := hp.length_eq
  have wf : ∀ x ∈ qs.map rowD, fine 0 x = true ∧ x.depth ≤ 1 := fun x hx => by
    obtain ⟨q, hq, rfl⟩ := List.mem_map.mp hx
    have hq' := hp.mem_iff.mp hq
    obtain ⟨h1, h2, h3, h4⟩ := o.wat q hq'
    obtain ⟨g1, g2, g3⟩ := o.w.wok q hq'
    refine ⟨?_, by simp [rowD, PyData.depth, PyData.depthAll]⟩
    refine fineAll_iff.mpr fun y hy => ?_
    simp only [List.mem_cons, List.not_mem_nil, or_false] at hy
    rcases hy with rfl | rfl | rfl | rfl
    · exact nm_fine h4
    · exact nm_fine (o.nok _ h1)
    · exact nm_fine (o.nok _ h2)
    · exact small_int (by omega)
  refine ⟨?_, ?_, ?_⟩
  · refine fineAll_iff.mpr fun y hy' => ?_
    simp only [List.mem_cons, List.not_mem_nil, or_false] at hy'
    rcases hy' with rfl | rfl | rfl
    · exact small_int (by omega)
    · refine fineAll_iff.mpr fun x hx => ?_
      obtain ⟨s, hs, rfl⟩ := List.mem_map.mp hx
      exact nm_fine (o.nok s hs)
    · exact fineAll_iff.mpr fun x hx => (wf x hx).1
  · simp only [planD, sz, szAll, sz_strs, sz_rows]
    omega
  · have d1 : PyData.depthAll (h.names.map PyData.str) ≤ 1 := depthAll_le fun x hx => by
      obtain ⟨s, hs, rfl⟩ := List.mem_map.mp hx
      simp [PyData.depth]
    have d2 : PyData.depthAll (qs.map rowD) ≤ 1 := depthAll_le fun x hx => (wf x hx).2
    simp only [planD, PyData.depth, PyData.depthAll]
    omega
def leafN (d : PyData) : Prop := d = .none ∨ (∃ k, d = .bool k) ∨ ∃ i : Int, d = .int i ∧ i.natAbs ≤ 1000000001000
theorem leaf_fine {d : PyData} (h : leafN d) : fine 0 d = true ∧ sz d = 1 ∧ d.depth = 0 := by
  rcases h with rfl | ⟨k, rfl⟩ | ⟨i, rfl, h⟩
  · exact ⟨rfl, rfl, rfl⟩
  · exact ⟨rfl, rfl, rfl⟩
  · refine ⟨?_, rfl, rfl⟩
    simp only [fine, decide_eq_true_eq]
    exact Nat.le_trans h (by decide)
theorem sz_leaves : ∀ {xs : List PyData}, (∀ x ∈ xs, leafN x) → szAll xs = xs.length ∧ PyData.depthAll xs = 0
  | [], _ => ⟨rfl, rfl⟩
  | x :: xs, h => by
    obtain ⟨h1, h2⟩ := sz_leaves fun y hy => h y (List.mem_cons_of_mem _ hy)
    obtain ⟨g1, g2, g3⟩ := leaf_fine (h x List.mem_cons_self)
    constructor
    · simp only [szAll, h1, g2, List.length_cons]; omega
    · simp only [PyData.depthAll, h2, g3]; rfl
theorem pic_leafD {d : PyData} {xs : List PyData} (hb : leafN d) (hx : ∀ x ∈ xs, leafN x) (hl : xs.length ≤ 8) : Ok 0 11 3 (.tuple [d, .tuple xs]) := by
  obtain ⟨h1, h2⟩ := sz_leaves hx
  obtain ⟨g1, g2, g3⟩ := leaf_fine hb
  refine ⟨?_, ?_, ?_⟩
  · refine fineAll_iff.mpr fun y hy => ?_
    simp only [List.mem_cons, List.not_mem_nil, or_false] at hy
    rcases hy with rfl | rfl
    · exact g1
    · exact fineAll_iff.mpr fun x h => (leaf_fine (hx x h)).1
  · simp only [sz, szAll, h1, g2]; omega
  · simp only [PyData.depth, PyData.depthAll, h2, g3]; omega
theorem ok_lst {n b m : Nat} {ds : List PyData} (h : Ok n b m (.tuple ds)) : Ok n b m (.list ds) := ⟨h.fn, h.sz, h.dp⟩
theorem pic_ok {b : Int} {ns : List Str} {last : Str → Option Int} (h0 : 0 ≤ b) (h1 : b ≤ 1000000001000) (hl : lasts b last) (n8 : ns.length ≤ 8) : Ok 0 11 3 (picD b (ns.map last)) := by
  refine pic_leafD (.inr (.inr ⟨b, rfl, by omega⟩)) (fun x hx => ?_) (by simpa using n8)
  obtain ⟨o, ho, rfl⟩ := List.mem_map.mp hx
  obtain ⟨c, hc, rfl⟩ := List.mem_map.mp ho
  cases e : last c with
  | none => exact .inl rfl
  | some l =>
    have := hl c l e
    exact .inr (.inr ⟨l, rfl, by omega⟩)
/-- what's fine and small -/
theorem ok_list {k b m : Nat} {ds : List PyData} (h : ∀ d ∈ ds, Ok 0 b m d) (hl : ds.length ≤ k) : Ok 0 (b * k + 1) (m + 1) (.list ds) := by
  refine ⟨fineAll_iff.mpr fun d hd => (h d hd).fn, ?_, ?_⟩
  · have q : ∀ {es : List PyData}, (∀ d ∈ es, Ok 0 b m d) → szAll es ≤ b * es.length := by
      intro es
      induction es with
      | nil => intro _; simp [szAll]
      | cons e es ih =>
        intro h
        have h1 := (h e List.mem_cons_self).sz
        have h2 := ih fun d hd => h d (List.mem_cons_of_mem _ hd)
        simp only [szAll, List.length_cons, Nat.mul_succ]
        omega
    have h3 := q h
    have h4 : b * ds.length ≤ b * k := Nat.mul_le_mul_left b hl
    simp only [sz]
    omega
  · have := depthAll_le fun d hd => (h d hd).dp
    simp only [PyData.depth]
    omega
theorem ok_two {n b b' m : Nat} {d e : PyData} (h : Ok n b m d) (g : Ok n b' m e) : Ok n (b + b' + 1) (m + 1) (.tuple [d, e]) := by
  refine ⟨fineAll_iff.mpr fun x hx => ?_, ?_, ?_⟩
  · simp only [List.mem_cons, List.not_mem_nil, or_false] at hx
    rcases hx with rfl | rfl
    · exact h.fn
    · exact g.fn
  · have := h.sz
    have := g.sz
    simp only [sz, szAll]
    omega
  · have := h.dp
    have := g.dp
    simp only [PyData.depth, PyData.depthAll]
    omega
theorem call_ok {b : Int} {s : Str} (hb : b.natAbs ≤ 1000000001000) (hs : nmOk s) : Ok 0 3 1 (callD b s) := by
  refine ⟨fineAll_iff.mpr fun y hy => ?_, ?_, ?_⟩
  · simp only [List.mem_cons, List.not_mem_nil, or_false] at hy
    rcases hy with rfl | rfl
    · exact (leaf_fine (.inr (.inr ⟨b, rfl, hb⟩))).1
    · exact nm_fine hs
  · simp [callD, sz, szAll]
  · simp [callD, PyData.depth, PyData.depthAll]
theorem runC_mem {qs : List Way} {r : Int} {ns : List Str} : ∀ {n : Nat} {t : Int} {last : Str → Option Int} {c : Int × Str}, c ∈ runC qs r ns t n last → c.2 ∈ ns ∧ t < c.1 ∧ c.1 ≤ t + n
  | 0, t, last, c, h => by simp [runC] at h
  | n + 1, t, last, c, h => by
    rw [runC, List.mem_append] at h
    rcases h with h | h
    · obtain ⟨s, hs, rfl⟩ := List.mem_map.mp h
      exact ⟨(callers_mem.mp hs).1, by show t < t + 1; omega, by show t + 1 ≤ _; omega⟩
    · obtain ⟨h1, h2, h3⟩ := runC_mem h
      exact ⟨h1, by omega, by omega⟩
theorem calls_ok {qs : List Way} {r : Int} {ns : List Str} {n : Nat} {t : Int} {last : Str → Option Int} (h0 : 0 ≤ t) (h1 : t + n ≤ 1000000001000) (n8 : ns.length ≤ 8) (nok : ∀ s ∈ ns, nmOk s) : Ok 0 (3 * (8 * n) + 1) 2 (.list (callsD (runC qs r ns t n last))) :=
  ok_list (m := 1) (fun d hd => by
    obtain ⟨c, hc, rfl⟩ := List.mem_map.mp hd
    obtain ⟨g1, g2, g3⟩ := runC_mem hc
    exact call_ok (by omega) (nok _ g1)) (by
    have h := runC_len (qs := qs) (r := r) (ns := ns) n t last
    have h2 : ns.length * n ≤ 8 * n := Nat.mul_le_mul_right n n8
    unfold callsD
    rw [List.length_map]
    omega)
/-- the calls of the first beats -/
theorem runC_first {qs : List Way} {r : Int} {ns : List Str} {k T : Nat} (hT : T ≤ k) {B : Int} {L : Str → Option Int} : (runC qs r ns B k L).filter (fun c => decide (c.1 ≤ B + T)) = runC qs r ns B T L := by
  obtain ⟨m, rfl⟩ : ∃ m, k = T + m := ⟨k - T, by omega⟩
  rw [runC_add, List.filter_append, List.filter_eq_self.mpr fun c hc => by have := (runC_mem hc).2.2; simpa using this, List.filter_eq_nil_iff.mpr fun c hc => by have := (runC_mem hc).2.1; simp; omega, List.append_nil]
/-- who called in a beat -/
theorem calls_last {qs : List Way} {r : Int} {ns : List Str} {B : Int} {L : Str → Option Int} (hB0 : 0 ≤ B) (hL : lasts B L) (i : Nat) : callsD (runC qs r ns B (i + 1) L) = callsD (runC qs r ns B i L) ++ (calledIn ns (adv qs r B (i + 1) L) (B + i + 1)).map (callD (B + i + 1)) := by
  rw [runC_succ, adv_succ, calledIn_step (adv_lasts hB0 hL i)]
  unfold callsD
  rw [List.map_append, List.map_map]
  rfl
/-! cells that come on top leave a heath as it is -/
theorem HmAt.ext {h : Hm} {hp : Addr} {F μ μ' : Mu} (H : HmAt h hp F μ) (e : ∀ b, μ b ≠ none → μ' b = μ b) : HmAt h hp F μ' := by
  obtain ⟨wp, ap, lp, C⟩ := H
  exact ⟨wp, ap, lp, C.toF (fun x hx => e x (by
    rcases hx with rfl | rfl | rfl | rfl
    · rw [C.hh]; simp
    · rw [C.w]; simp
    · rw [C.a]; simp
    · rw [C.l]; simp)) C.fh C.fw C.fa C.fl fun x hx => by rw [e x (by rw [C.fr x hx]; exact hx)]; exact C.fr x hx⟩
theorem HT.ext {t : Addr} {n : Int} {h : Hm} {hp : Addr} {F μ μ' : Mu} (H : HT t n h hp F μ) (e : ∀ b, μ b ≠ none → μ' b = μ b) : HT t n h hp F μ' := ⟨H.1, H.2.ext e⟩
theorem TapeAt.ext {t : Addr} {n : Int} {μ μ' : Mu} (H : TapeAt t n μ) (e : ∀ b, μ b ≠ none → μ' b = μ b) : TapeAt t n μ' := by
  obtain ⟨a, b, c, g, r⟩ := H
  exact ⟨a, b, c, by rw [e t (by rw [g]; simp)]; exact g, r⟩
theorem mset_extend {μ : Mu} {p q : Addr} {x y z : Option MO} (ne : q ≠ p) (hq : μ q = none) : mset (mset (mset (mset μ p z) q x) p y) q none = mset μ p y := by
  funext c
  simp only [mset]
  by_cases c1 : c = p
  · subst c1; simp [ne.symm]
  · by_cases c2 : c = q
    · subst c2; simp [c1, hq]
    · simp [c1, c2]
theorem ext_set {μ : Mu} {p : Addr} {o : Option MO} (hp : μ p = none) : ∀ b, μ b ≠ none → mset μ p o b = μ b := fun b hb => mset_ne fun z => hb (by rw [z]; exact hp)
end K1


set_option maxHeartbeats 4000000
namespace K1
open PySem PySem.Spec PyProof.Rows L2 RZ DL
local macro_rules | `(tactic| walk_at "dl") => `(tactic| simp [and_assoc, mRet, mAnd, mOr, mCall, mCons, mVar, mCls, mNil, mC, oIsi, oIsi2, mNot, startD, mSeq, mIfS, mTOr, mTAnd, mTNot, mTest, mChain, mNext, oA1, oA2, oIB, oII, oII0, mOp, mUn, mAsg, mgName, mgTup, mgCons_c, mgNil_n, zipAs_l, zipAs_t, oSl_l, oSl_t, oSl_s, oSl_r, mPart, mSl, mIf, wipeD, oSign, oSS, oLen, LenD_s, LenD_l, LenD_t, LenD_m, miZ, miS, miT, miL, miE, miR, oEq, oNe, eqD_i, eqD_b, eqD_s, oInT, oIx, ixD_l, ixD_t, ixD_s, ixD_m, ix0, ix1, ix2, ix3, oAbs, oInt, oMax, oMin, mPar, mPar3, mTup, mLst, mLstM, asD, mExpr, itemsD_l, itemsD_t, oNeg, mgSub, mset_same, mIsN, mDrp, mTIsN, oEqW, eqW_n, eqW_b, eqW_i, eqW_s, non_n, non_b, non_i, non_s, non_l, non_t, miR2, mDNew, mDGet, mDPut, mDisp, mPairs, kD_s, kD_i, isStr, isTup, isLst, isBool, DL.isInt, mAppend, mDPop, oNeE, miM, DL.HoldL, mDIn, mDictZip, oRepU, mListZip, oDictP, mCallP, pick, oNotB, mExtend, oSortA, oSortAM, mTupM, oIxT, mgTupC, mCallB, miD, miC, mGh, miMix, Sk.dat, mUpdate, mItems, oDictD, oListM, oListC, oRepL, oSortT, mVals, mDGetT, mDInT, mDPutT, mDGet2T, mLockE, mLockS, mNever, oSumI, oMaxI, mgLstU, oHpop, oHpush, mTru, mStar, mCont, mMinVals, mPop0, mTIsNM])
section
variable {P : Program} {w : World} {K : PySem.W.Frag} {mg : Str → Option Value} {base : Heap}
/-- a plan, its names such as are drawn -/
structure PlanNm (ns : List Str) (qs : List Way) : Prop where
  po : PlanOk ns qs
  wn : (qs.map (·.1)).Nodup
  nok : ∀ s ∈ ns, nmOk s
  wok : ∀ q ∈ qs, nmOk q.1
theorem way_one {qs : List Way} (h : (qs.map (·.1)).Nodup) {q q' : Way} (hq : q ∈ qs) (hq' : q' ∈ qs) (e : q.1 = q'.1) : q = q' := by
  obtain ⟨i, hi, rfl⟩ := List.getElem_of_mem hq
  obtain ⟨j, hj, rfl⟩ := List.getElem_of_mem hq'
  have ij : i = j := (List.getElem_inj (xs := qs.map (·.1)) (h₀ := by simpa using hi) (h₁ := by simpa using hj) h).mp (by simpa using e)
  subst ij
  rfl
/-- a way by its name -/
def d_find_way : DOs := fun as μ Q => ∃ r ns qs q, as = [.dat (planD r ns qs), .dat (.str q.1)] ∧ qs.length ≤ 10 ∧ (qs.map (·.1)).Nodup ∧ q ∈ qs ∧ Q (.dat (rowD q)) μ
theorem ok_find_way (T : Txt K mg) {f : Addr} {fd : FuncData} (D : DefAt K mg "find_way" s_find_way ["plan", "name"] f fd) : Prm P w K mg base 1 "find_way" 2 d_find_way := by
  refine prm_of D sc_find_way rfl (fun as μ Q ⟨r, ns, qs, q, e, _⟩ => by rw [e]; rfl) fun cdv A out s H hr hg => ⟨_, _,
(db_cons (ds_for (vs := [2]) PassesOwn.never rfl (di_tup (de_ix (de_var (pv 0)) de_int (fun _ _ => rfl))) (dg_name (pg_name (i := 2) sc_find_way.nd rfl (by first | exact Or.inl rfl | exact Or.inr rfl)) (by decide)) (db_one (ds_if (dt_cmp op_eq so_eq (de_ix (de_var (pv 2)) de_int (fun _ _ => rfl)) (de_var (pv 1))) (db_one (ds_ret (de_var (pv 2)))) db_nil)))
    (db_one ds_never))
    , fun as μ Q ⟨r, ns, qs, q, e, q10, hn, hq, k⟩ => ?_⟩
  subst e
  have hsl : sizeLine = 16777216 := sizeLine_eq
  walk_at "dl"
  refine for_by (μ1 := μ) (qs.map rowD) (fun Z z => by walk_at "dl"; exact ⟨_, ixP2.mpr rfl, _, rfl, z⟩) (fun i δ' μ' => μ' = μ ∧ (∀ x ∈ qs.take i, x.1 ≠ q.1) ∧ ∃ a2, δ' = [some (.dat (planD r ns qs)), some (.dat (.str q.1)), a2]) ⟨rfl, by simp, _, rfl⟩ (fun i d δ' μ' hd ⟨e1, hno, a2, e2⟩ => ?_) (fun δ' μ' ⟨e1, hno, a2, e2⟩ => ?_)
  · subst e1 e2
    rw [List.getElem?_map] at hd
    obtain ⟨x, hx, rfl⟩ := Option.map_eq_some_iff.mp hd
    walk_at "dl"
    refine ⟨.dat (.str x.1), by simp [rowD, ixD_t, ix0], _, rfl, ?_⟩
    rw [eqD_s]
    by_cases c : x.1 = q.1
    · refine .inr ⟨by rw [decide_eq_true c], ?_⟩
      rw [way_one hn (List.mem_of_getElem? hx) hq c]
      exact k
    · refine .inl ⟨by rw [decide_eq_false c], fun y1 y2 y3 y4 hy => ?_⟩
      rw [List.take_add_one, hx] at hy
      rcases List.mem_append.mp hy with hy | hy
      · exact hno _ hy
      · have : (y1, y2, y3, y4) = x := by simpa using hy
        rw [← this] at c; exact c
  · rw [List.length_map] at hno
    exact absurd rfl (hno q (by rw [List.take_length]; exact hq))
def d_check_caller : DOs := fun as μ Q => ∃ r ns qs c, as = [.dat (planD r ns qs), .dat (.str c)] ∧ c ∈ ns ∧ (∀ s ∈ ns, nmOk s) ∧ Q (.dat .none) μ
theorem ok_check_caller (T : Txt K mg) {f : Addr} {fd : FuncData} (D : DefAt K mg "check_caller" s_check_caller ["plan", "caller"] f fd) : Prm P w K mg base 1 "check_caller" 2 d_check_caller := by
  refine prm_of D sc_check_caller rfl (fun as μ Q ⟨r, ns, qs, c, e, _⟩ => by rw [e]; rfl) fun cdv A out s H hr hg => ⟨_, _,
(db_one (ds_if (dt_cmp (op_notInT (hu65 hr)) so_inT (de_var (pv 1)) (de_ix (de_var (pv 0)) de_int (fun _ _ => rfl))) (db_one ds_never) db_nil))
    , fun as μ Q ⟨r, ns, qs, c, e, hc, nok, k⟩ => ?_⟩
  subst e
  walk_at "dl"
  exact ⟨_, ixP1.mpr rfl, _, rfl, nm_shaped (nok c hc), shaped_strs nok, by rw [memD_strs]; exact decide_eq_true hc, k⟩
/-- the other end -/
def thr (c : Str) (q : Way) : Str := if c = q.2.1 then q.2.2.1 else q.2.1
def atB (c : Str) (q : Way) : Bool := decide (c = q.2.1 ∨ c = q.2.2.1)
def endD (c : Str) (q : Way) : PyData := .tuple [.str q.1, .str (thr c q), .int q.2.2.2]
def legD (c : Str) (q : Way) : PyData := .tuple [.str q.1, .str (thr c q)]
def d_ends_at : DOs := fun as μ Q => ∃ r ns qs c, as = [.dat (planD r ns qs), .dat (.str c)] ∧ PlanNm ns qs ∧ c ∈ ns ∧ Q (.dat (.list ((qs.filter (atB c)).map (endD c)))) μ
theorem ok_ends_at (T : Txt K mg) {f : Addr} {fd : FuncData} (D : DefAt K mg "ends_at" s_ends_at ["plan", "caller"] f fd) : Prm P w K mg base 1 "ends_at" 2 d_ends_at := by
  refine prm_of D sc_ends_at rfl (fun as μ Q ⟨r, ns, qs, c, e, _⟩ => by rw [e]; rfl) fun cdv A out s H hr hg => ⟨_, _,
(db_one (ds_ret (de_lc (own := [("name", 2), ("one", 3), ("other", 4), ("beats", 5)]) rfl sc_ends_at.nd (di_tup (de_ix (de_var (pv 0)) de_int (fun _ _ => rfl))) (blkOk_by (N := N_ends_at) (sc := defScope s_ends_at) (by decide +kernel)) (fun _ _ _ _ _ => (dg_tup (K := K) (n := 4) rfl rfl (dgs_cons (dg_name (pg_name (i := 2) sc_ends_at.nd rfl (by first | exact Or.inl rfl | exact Or.inr rfl)) (by decide)) (dgs_cons (dg_name (pg_name (i := 3) sc_ends_at.nd rfl (by first | exact Or.inl rfl | exact Or.inr rfl)) (by decide)) (dgs_cons (dg_name (pg_name (i := 4) sc_ends_at.nd rfl (by first | exact Or.inl rfl | exact Or.inr rfl)) (by decide)) (dgs_cons (dg_name (pg_name (i := 5) sc_ends_at.nd rfl (by first | exact Or.inl rfl | exact Or.inr rfl)) (by decide)) dgs_nil)))))) (fun _ _ _ _ _ => (dts_one (dt_cmpC (K := K) (r := (fun K => rInT K false)) rfl (op_inT (hu65 hr)) so_inT (de_var (pv 1)) (de_tup (da_cons (de_var (pv 3)) (da_cons (de_var (pv 4)) da_nil)))))) (fun _ _ _ _ _ => (de_tup (da_cons (de_var (pv 2)) (da_cons (de_if (dt_cmp op_eq so_eq (de_var (pv 1)) (de_var (pv 3))) (de_var (pv 4)) (de_var (pv 3))) (da_cons (de_var (pv 5)) da_nil))))))))
    , fun as μ Q ⟨r, ns, qs, c, e, pn, hc, k⟩ => ?_⟩
  have q10 := pn.po.q10
  subst e
  have hsl : sizeLine = 16777216 := sizeLine_eq
  walk_at "dl"
  refine lc_T (μ1 := μ) qs rowD (atB c) (endD c) (fun R r0 => ?_) (by omega) (fun x hx μ' R1 R0 fr r1 r0 => ?_) k
  · walk_at "dl"
    exact ⟨_, ixP2.mpr rfl, _, rfl, r0⟩
  · unfold rowD
    walk_at "dl"
    obtain ⟨g1, g2, _⟩ := pn.po.ends x hx
    refine ⟨by omega, nm_shaped (pn.nok c hc), nm_shaped2 (pn.nok _ g1) (pn.nok _ g2), ?_⟩
    rw [memD_2]
    by_cases h : c = x.2.1 ∨ c = x.2.2.1
    · rw [if_pos (decide_eq_true h)]
      have r1 := r1 (decide_eq_true h)
      unfold endD thr at r1
      by_cases h1 : c = x.2.1
      · rw [if_pos h1] at r1
        exact .inr ⟨h1, by omega, r1⟩
      · rw [if_neg h1] at r1
        exact .inl ⟨h1, by omega, r1⟩
    · rw [if_neg (by simpa using h)]
      exact r0 (decide_eq_false h)
def d_ways_at : DOs := fun as μ Q => ∃ r ns qs c, as = [.dat (planD r ns qs), .dat (.str c)] ∧ PlanNm ns qs ∧ c ∈ ns ∧ Q (.dat (.list ((qs.filter (atB c)).map (legD c)))) μ
theorem ok_ways_at (T : Txt K mg) (p_check_caller : Prm P w K mg base 1 "check_caller" 2 d_check_caller) (p_ends_at : Prm P w K mg base 1 "ends_at" 2 d_ends_at) {f : Addr} {fd : FuncData} (D : DefAt K mg "ways_at" s_ways_at ["plan", "caller"] f fd) : Prm P w K mg base 2 "ways_at" 2 d_ways_at := by
  refine prm_of D sc_ways_at rfl (fun as μ Q ⟨r, ns, qs, c, e, _⟩ => by rw [e]; rfl) fun cdv A out s H hr hg => ⟨_, _,
(db_cons (ds_expr (de_call p_check_caller (hr.mono (by omega)) hg (by rfl) (da_cons (de_var (pv 0)) (da_cons (de_var (pv 1)) da_nil))))
    (db_one (ds_ret (de_lc (own := [("name", 2), ("there", 3), ("_", 4)]) rfl sc_ways_at.nd (di_list (de_call p_ends_at (hr.mono (by omega)) hg (by rfl) (da_cons (de_var (pv 0)) (da_cons (de_var (pv 1)) da_nil)))) (blkOk_by (N := N_ways_at) (sc := defScope s_ways_at) (by decide +kernel)) (fun _ _ _ _ _ => (dg_tup (K := K) (n := 3) rfl rfl (dgs_cons (dg_name (pg_name (i := 2) sc_ways_at.nd rfl (by first | exact Or.inl rfl | exact Or.inr rfl)) (by decide)) (dgs_cons (dg_name (pg_name (i := 3) sc_ways_at.nd rfl (by first | exact Or.inl rfl | exact Or.inr rfl)) (by decide)) (dgs_cons (dg_name (pg_name (i := 4) sc_ways_at.nd rfl (by first | exact Or.inl rfl | exact Or.inr rfl)) (by decide)) dgs_nil))))) (fun _ _ _ _ _ => dts_nil) (fun _ _ _ _ _ => (de_tup (da_cons (de_var (pv 2)) (da_cons (de_var (pv 3)) da_nil))))))))
    , fun as μ Q ⟨r, ns, qs, c, e, pn, hc, k⟩ => ?_⟩
  subst e
  have q10 := pn.po.q10
  have hsl : sizeLine = 16777216 := sizeLine_eq
  walk_at "dl"
  refine ⟨r, ns, qs, c, rfl, hc, pn.nok, ?_⟩
  refine lc_T (μ1 := μ) (qs.filter (atB c)) (endD c) (fun _ => true) (legD c) (fun R r0 => ?_) (by have := List.length_filter_le (atB c) qs; omega) (fun x hx μ' R1 R0 fr r1 r0 => ?_) ?_
  · walk_at "dl"
    exact ⟨r, ns, qs, c, rfl, pn, hc, _, rfl, r0⟩
  · unfold endD
    walk_at "dl"
    exact ⟨by omega, r1 rfl⟩
  · rw [List.filter_eq_self.mpr fun _ _ => rfl]
    exact k
/-- who owes, as a number -/
noncomputable def leanI (b : Int) (last : Str → Option Int) (q : Way) : Int := @ite _ (owes b q.2.2.2 (last q.2.1) (last q.2.2.1)) (Classical.propDecidable _) (-1) (@ite _ (owes b q.2.2.2 (last q.2.2.1) (last q.2.1)) (Classical.propDecidable _) 1 0)
noncomputable def leanF (b : Int) (last : Str → Option Int) (c : Str) (q : Way) : Int := if c = q.2.1 then leanI b last q else -leanI b last q
def d_lean : DOs := fun as μ Q => ∃ r ns qs b last q, as = [.dat (planD r ns qs), .dat (picD b (ns.map last)), .dat (.str q.1)] ∧ PlanNm ns qs ∧ q ∈ qs ∧ Q (.dat (.int (leanI b last q))) μ
theorem ok_lean (T : Txt K mg) (p_find_way : Prm P w K mg base 1 "find_way" 2 d_find_way) (p_who_owes : Prm P w K mg base 2 "who_owes" 3 d_who_owes) {f : Addr} {fd : FuncData} (D : DefAt K mg "lean" s_lean ["plan", "picture", "way"] f fd) : Prm P w K mg base 3 "lean" 3 d_lean := by
  refine prm_of D sc_lean rfl (fun as μ Q ⟨r, ns, qs, b, last, q, e, _⟩ => by rw [e]; rfl) fun cdv A out s H hr hg => ⟨_, _,
(db_cons (ds_setE (i := 3) sc_lean.nd rfl (by first | exact Or.inl rfl | exact Or.inr rfl) (de_call p_find_way (hr.mono (by omega)) hg (by rfl) (da_cons (de_var (pv 0)) (da_cons (de_var (pv 2)) da_nil))))
    (db_cons (ds_setE (i := 4) sc_lean.nd rfl (by first | exact Or.inl rfl | exact Or.inr rfl) (de_call p_who_owes (hr.mono (by omega)) hg (by rfl) (da_cons (de_var (pv 0)) (da_cons (de_var (pv 1)) (da_cons (de_var (pv 3)) da_nil)))))
    (db_cons (ds_if (dt_isN (de_var (pv 4))) (db_one (ds_ret de_int)) db_nil)
    (db_one (ds_ret (de_if (dt_cmp op_eq so_eq (de_var (pv 4)) (de_ix (de_var (pv 3)) de_int (fun _ _ => rfl))) de_int (de_un un_neg so_neg de_int)))))))
    , fun as μ Q ⟨r, ns, qs, b, last, q, e, pn, hq, k⟩ => ?_⟩
  subst e
  have q10 := pn.po.q10
  obtain ⟨g1, g2, g3, _⟩ := pn.po.ends q hq
  walk_at "dl"
  refine ⟨r, ns, qs, q, rfl, q10, pn.wn, hq, r, ns, qs, b, last, q.1, q.2.1, q.2.2.1, q.2.2.2, rfl, pn.po.nd, g1, g2, ?_⟩
  unfold leanI at k
  unfold owerD
  by_cases h1 : owes b q.2.2.2 (last q.2.1) (last q.2.2.1)
  · rw [if_pos h1] at k ⊢
    refine ⟨_, rfl, ?_⟩
    rw [if_neg (by simp [DL.isNon])]
    refine ⟨.dat (.str q.2.2.1), by simp [rowD, ixD_t, ix2], _, rfl, _, rfl, .inl ⟨by rw [eqD_s, decide_eq_false g3], k⟩⟩
  · rw [if_neg h1] at k ⊢
    by_cases h2 : owes b q.2.2.2 (last q.2.2.1) (last q.2.1)
    · rw [if_pos h2] at k ⊢
      refine ⟨_, rfl, ?_⟩
      rw [if_neg (by simp [DL.isNon])]
      refine ⟨.dat (.str q.2.2.1), by simp [rowD, ixD_t, ix2], _, rfl, _, rfl, .inr ⟨by rw [eqD_s, decide_eq_true rfl], k⟩⟩
    · rw [if_neg h2] at k ⊢
      exact ⟨_, rfl, by rw [if_pos (show DL.isNon PyData.none = true from rfl)]; exact k⟩
def d_lean_from : DOs := fun as μ Q => ∃ r ns qs b last c q, as = [.dat (planD r ns qs), .dat (picD b (ns.map last)), .dat (.str c), .dat (.str q.1)] ∧ PlanNm ns qs ∧ q ∈ qs ∧ Q (.dat (.int (leanF b last c q))) μ
theorem ok_lean_from (T : Txt K mg) (p_find_way : Prm P w K mg base 1 "find_way" 2 d_find_way) (p_lean : Prm P w K mg base 3 "lean" 3 d_lean) {f : Addr} {fd : FuncData} (D : DefAt K mg "lean_from" s_lean_from ["plan", "picture", "caller", "way"] f fd) : Prm P w K mg base 4 "lean_from" 4 d_lean_from := by
  refine prm_of D sc_lean_from rfl (fun as μ Q ⟨r, ns, qs, b, last, c, q, e, _⟩ => by rw [e]; rfl) fun cdv A out s H hr hg => ⟨_, _,
(db_cons (ds_setE (i := 4) sc_lean_from.nd rfl (by first | exact Or.inl rfl | exact Or.inr rfl) (de_call p_lean (hr.mono (by omega)) hg (by rfl) (da_cons (de_var (pv 0)) (da_cons (de_var (pv 1)) (da_cons (de_var (pv 3)) da_nil)))))
    (db_one (ds_ret (de_if (dt_cmp op_eq so_eq (de_var (pv 2)) (de_ix (de_call p_find_way (hr.mono (by omega)) hg (by rfl) (da_cons (de_var (pv 0)) (da_cons (de_var (pv 3)) da_nil))) de_int (fun _ _ => rfl))) (de_var (pv 4)) (de_un un_neg so_neg (de_var (pv 4)))))))
    , fun as μ Q ⟨r, ns, qs, b, last, c, q, e, pn, hq, k⟩ => ?_⟩
  subst e
  have q10 := pn.po.q10
  walk_at "dl"
  refine ⟨r, ns, qs, b, last, q, rfl, pn, hq, r, ns, qs, q, rfl, q10, pn.wn, hq, .dat (.str q.2.1), by simp [rowD, ixD_t, ix1], _, rfl, ?_⟩
  rw [eqD_s]
  unfold leanF at k
  by_cases h : c = q.2.1
  · rw [if_pos h] at k
    exact .inr ⟨by rw [decide_eq_true h], k⟩
  · rw [if_neg h] at k
    exact .inl ⟨by rw [decide_eq_false h], _, rfl, k⟩
/-- one pair of a ring: a caller, and a way from it -/
def hopD (p : Str × Way) : PyData := .tuple [.str p.1, .str p.2.1]
noncomputable def windI (b : Int) (last : Str → Option Int) (ps : List (Str × Way)) : Int := (ps.map fun p => leanF b last p.1 p.2).sum
def d_wind : DOs := fun as μ Q => ∃ r ns qs b last ps, as = [.dat (planD r ns qs), .dat (picD b (ns.map last)), .dat (.list (ps.map hopD))] ∧ PlanNm ns qs ∧ ps.length ≤ 1000 ∧ (∀ p ∈ ps, p.2 ∈ qs) ∧ Q (.dat (.int (windI b last ps))) μ
theorem ok_wind (T : Txt K mg) (p_lean_from : Prm P w K mg base 4 "lean_from" 4 d_lean_from) {f : Addr} {fd : FuncData} (D : DefAt K mg "wind" s_wind ["plan", "picture", "ring"] f fd) : Prm P w K mg base 5 "wind" 3 d_wind := by
  refine prm_of D sc_wind rfl (fun as μ Q ⟨r, ns, qs, b, last, ps, e, _⟩ => by rw [e]; rfl) fun cdv A out s H hr hg => ⟨_, _,
(db_one (ds_ret (de_callB (cr_sum rfl) (so_A1 so_sumI) (by rfl) T.n_sum (by decide +kernel) (da_cons (de_lc (own := [("caller", 3), ("way", 4)]) rfl sc_wind.nd (di_list (de_var (pv 2))) (blkOk_by (N := N_wind) (sc := defScope s_wind) (by decide +kernel)) (fun _ _ _ _ _ => (dg_tup (K := K) (n := 2) rfl rfl (dgs_cons (dg_name (pg_name (i := 3) sc_wind.nd rfl (by first | exact Or.inl rfl | exact Or.inr rfl)) (by decide)) (dgs_cons (dg_name (pg_name (i := 4) sc_wind.nd rfl (by first | exact Or.inl rfl | exact Or.inr rfl)) (by decide)) dgs_nil)))) (fun _ _ _ _ _ => dts_nil) (fun _ _ _ _ _ => (de_callC p_lean_from rfl rfl rfl rfl rfl (hr.mono (by omega)) hg (by rfl) (da_cons (de_var (pv 0)) (da_cons (de_var (pv 1)) (da_cons (de_var (pv 3)) (da_cons (de_var (pv 4)) da_nil))))))) da_nil))))
    , fun as μ Q ⟨r, ns, qs, b, last, ps, e, pn, hl, hps, k⟩ => ?_⟩
  subst e
  have hsl : sizeLine = 16777216 := sizeLine_eq
  walk_at "dl"
  refine lc_T (μ1 := μ) ps hopD (fun _ => true) (fun p => .int (leanF b last p.1 p.2)) (fun R r0 => ?_) (by omega) (fun x hx μ' R1 R0 fr r1 r0 => ?_) ?_
  · walk_at "dl"
    exact r0
  · unfold hopD
    walk_at "dl"
    exact ⟨r, ns, qs, b, last, x.1, x.2, rfl, pn, hps x hx, r1 rfl⟩
  · rw [List.filter_eq_self.mpr fun _ _ => rfl]
    exact ⟨ps.map fun p : Str × Way => leanF b last p.1 p.2, .inl (by rw [List.map_map]; rfl), k⟩
end
end K1


set_option maxHeartbeats 4000000
namespace K1
open PySem PySem.Spec PyProof.Rows L2 RZ DL
local macro_rules | `(tactic| walk_at "dl") => `(tactic| simp [and_assoc, mRet, mAnd, mOr, mCall, mCons, mVar, mCls, mNil, mC, oIsi, oIsi2, mNot, startD, mSeq, mIfS, mTOr, mTAnd, mTNot, mTest, mChain, mNext, oA1, oA2, oIB, oII, oII0, mOp, mUn, mAsg, mgName, mgTup, mgCons_c, mgNil_n, zipAs_l, zipAs_t, oSl_l, oSl_t, oSl_s, oSl_r, mPart, mSl, mIf, wipeD, oSign, oSS, oLen, LenD_s, LenD_l, LenD_t, LenD_m, miZ, miS, miT, miL, miE, miR, oEq, oNe, eqD_i, eqD_b, eqD_s, oInT, oIx, ixD_l, ixD_t, ixD_s, ixD_m, ix0, ix1, ix2, ix3, oAbs, oInt, oMax, oMin, mPar, mPar3, mTup, mLst, mLstM, asD, mExpr, itemsD_l, itemsD_t, oNeg, mgSub, mset_same, mIsN, mDrp, mTIsN, oEqW, eqW_n, eqW_b, eqW_i, eqW_s, non_n, non_b, non_i, non_s, non_l, non_t, miR2, mDNew, mDGet, mDPut, mDisp, mPairs, kD_s, kD_i, isStr, isTup, isLst, isBool, DL.isInt, mAppend, mDPop, oNeE, miM, DL.HoldL, mDIn, mDictZip, oRepU, mListZip, oDictP, mCallP, pick, oNotB, mExtend, oSortA, oSortAM, mTupM, oIxT, mgTupC, mCallB, miD, miC, mGh, miMix, Sk.dat, mUpdate, mItems, oDictD, oListM, oListC, oRepL, oSortT, mVals, mDGetT, mDInT, mDPutT, mDGet2T, mLockE, mLockS, mNever, oSumI, oMaxI, mgLstU, oHpop, oHpush, mTru, mStar, mCont, mMinVals, mPop0, mTIsNM])
section
variable {P : Program} {w : World} {K : PySem.W.Frag} {mg : Str → Option Value} {base : Heap}
/-- who can be gone to from c along ways -/
inductive Lk (qs : List Way) (c : Str) : Str → Prop
  | here : Lk qs c c
  | on {x : Str} {q : Way} (h : Lk qs c x) (hq : q ∈ qs) (hx : atB x q = true) : Lk qs c (thr x q)
theorem thr_in {ns : List Str} {qs : List Way} (po : PlanOk ns qs) {x : Str} {q : Way} (hq : q ∈ qs) : thr x q ∈ ns := by
  obtain ⟨h1, h2, _⟩ := po.ends q hq
  unfold thr
  split
  · exact h2
  · exact h1
theorem Lk.mem {ns : List Str} {qs : List Way} (po : PlanOk ns qs) {c x : Str} (hc : c ∈ ns) (h : Lk qs c x) : x ∈ ns := by
  cases h with
  | here => exact hc
  | on h hq hx => exact thr_in po hq
/-- what a dict of reached callers holds -/
structure Reached (ns : List Str) (qs : List Way) (c : Str) (kis : List (Str × Int)) : Prop where
  nd : (kis.map (·.1)).Nodup
  lk : ∀ x ∈ kis.map (·.1), Lk qs c x
def kisD (kis : List (Str × Int)) : List (Key × AV) := kis.map fun q => (.inr q.1, .dat (.int q.2))
theorem valA_kis (x : Str) : ∀ kis : List (Str × Int), (valA (kisD kis) (.inr x)).isSome = decide (x ∈ kis.map (·.1))
  | [] => rfl
  | k :: kis => by
    have ih := valA_kis x kis
    unfold kisD at ih ⊢
    rw [List.map_cons, List.map_cons]
    by_cases e : k.1 = x
    · rw [valA_pos (by rw [e])]
      simp [e]
    · rw [valA_neg fun z => e (Sum.inr.inj z), ih]
      refine decide_eq_decide.mpr ?_
      rw [List.mem_cons]
      exact ⟨.inr, fun h => h.resolve_left fun z => e z.symm⟩
def d_beats_from : DOs := fun as μ Q => ∃ r ns qs c, as = [.dat (planD r ns qs), .dat (.str c)] ∧ PlanNm ns qs ∧ c ∈ ns ∧ ∀ R kis μ', μ R = none → Reached ns qs c kis → (∀ x, Lk qs c x → x ∈ kis.map (·.1)) → μ' R = some (.dK (kisD kis)) → (∀ b, μ b ≠ none → μ' b = μ b) → Q (.mut R) μ'
theorem ok_beats_from (T : Txt K mg) (p_ends_at : Prm P w K mg base 1 "ends_at" 2 d_ends_at) {f : Addr} {fd : FuncData} (D : DefAt K mg "beats_from" s_beats_from ["plan", "caller"] f fd) : Prm P w K mg base 2 "beats_from" 2 d_beats_from := by
  refine prm_of D sc_beats_from rfl (fun as μ Q ⟨r, ns, qs, c, e, _⟩ => by rw [e]; rfl) fun cdv A out s H hr hg => ⟨_, _,
(db_cons (ds_setE (i := 2) sc_beats_from.nd rfl (by first | exact Or.inl rfl | exact Or.inr rfl) de_dnew)
    (db_cons (ds_setE (i := 3) sc_beats_from.nd rfl (by first | exact Or.inl rfl | exact Or.inr rfl) (dm_lst (da_cons (de_tup (da_cons de_int (da_cons (de_var (pv 1)) da_nil))) da_nil)))
    (db_cons (ds_while PassesOwn.never (dt_tru (de_var (pv 3))) (db_cons (ds_asg (vs := [4, 5]) (de_callI (cr_hpop rfl (hu64 hr)) so_hpop (by rfl) T.c_heappop (da_cons (de_var (pv 3)) da_nil)) (dg_tup (K := K) (n := 2) rfl rfl (dgs_cons (dg_name (pg_name (i := 4) sc_beats_from.nd rfl (by first | exact Or.inl rfl | exact Or.inr rfl)) (by decide)) (dgs_cons (dg_name (pg_name (i := 5) sc_beats_from.nd rfl (by first | exact Or.inl rfl | exact Or.inr rfl)) (by decide)) dgs_nil))))
    (db_one (ds_if (dt_dnotin (hu_of hr) (de_var (pv 5)) (de_var (pv 2))) (db_cons (ds_dput (hu_of hr) (de_var (pv 2)) (de_var (pv 5)) (de_var (pv 4)))
    (db_one (ds_for (vs := [6, 7, 8]) PassesOwn.never rfl (di_list (de_call p_ends_at (hr.mono (by omega)) hg (by rfl) (da_cons (de_var (pv 0)) (da_cons (de_var (pv 5)) da_nil)))) (dg_tup (K := K) (n := 3) rfl rfl (dgs_cons (dg_name (pg_name (i := 6) sc_beats_from.nd rfl (by first | exact Or.inl rfl | exact Or.inr rfl)) (by decide)) (dgs_cons (dg_name (pg_name (i := 7) sc_beats_from.nd rfl (by first | exact Or.inl rfl | exact Or.inr rfl)) (by decide)) (dgs_cons (dg_name (pg_name (i := 8) sc_beats_from.nd rfl (by first | exact Or.inl rfl | exact Or.inr rfl)) (by decide)) dgs_nil)))) (db_one (ds_expr (de_callI (cr_hpush rfl (hu64 hr)) so_hpush (by rfl) T.c_heappush (da_cons (de_var (pv 3)) (da_cons (de_tup (da_cons (de_op op_add so_II0 (de_var (pv 4)) (de_var (pv 8))) (da_cons (de_var (pv 7)) da_nil))) da_nil)))))))) db_nil))))
    (db_one (ds_ret (de_var (pv 2)))))))
    , fun as μ Q ⟨r, ns, qs, c, e, pn, hc, k⟩ => ?_⟩
  subst e
  have q10 := pn.po.q10
  have hsl : sizeLine = 16777216 := sizeLine_eq
  walk_at "dl"
  refine fun R hR => ⟨by omega, by omega, fun A hA => ?_⟩
  have nAR : A ≠ R := fun z => by rw [z, mset_same] at hA; cases hA
  rw [mset_ne nAR] at hA
  have n8 := pn.po.n8
  let W : Nat → Dl → Mu → Prop := fun m δ' μ' => ∃ (kis : List (Str × Int)) (ls : List (Int × Str)) (y4 y5 y6 y7 y8 : Option AV), δ' = [some (.dat (planD r ns qs)), some (.dat (.str c)), some (.mut R), some (.mut A), y4, y5, y6, y7, y8] ∧ m = 11 * (8 - kis.length) + ls.length ∧
    Reached ns qs c kis ∧ (∀ p ∈ ls, Lk qs c p.2) ∧ (∀ x ∈ kis.map (·.1), ∀ q ∈ qs, atB x q = true → thr x q ∈ kis.map (·.1) ∨ ∃ p ∈ ls, p.2 = thr x q) ∧ (c ∈ kis.map (·.1) ∨ ∃ p ∈ ls, p.2 = c) ∧ ls.length ≤ 1 + 10 * kis.length ∧
    μ' R = some (.dK (kisD kis)) ∧ μ' A = some (.lst ((ls.map DL.prD).map AV.dat)) ∧ ∀ b, μ b ≠ none → μ' b = μ b
  have k8 : ∀ {kis}, Reached ns qs c kis → kis.length ≤ 8 := fun {kis} h => by
    have := nodup_sub h.nd fun x hx => (h.lk x hx).mem pn.po hc
    rw [List.length_map] at this
    omega
  refine ⟨W, ⟨_, [], [(0, c)], _, _, _, _, _, rfl, rfl, ⟨List.Pairwise.nil, fun x hx => nomatch hx⟩, fun p hp => by rw [List.mem_singleton.mp hp]; exact .here, (fun x hx => nomatch hx), .inr ⟨(0, c), List.mem_singleton.mpr rfl, rfl⟩, by simp, by rw [mset_ne nAR.symm, mset_same]; rfl, by rw [mset_same]; rfl, fun b hb => by rw [mset_ne fun z => hb (by rw [z]; exact hA), mset_ne fun z => hb (by rw [z]; exact hR)]⟩, ?_⟩
  rintro m δ' μ' ⟨kis, ls, y4, y5, y6, y7, y8, e1, em, rc, lk, cl, c0, hl, hR', hA', x'⟩
  subst e1
  have hk8 := k8 rc
  walk_at "dl"
  cases ls with
  | nil =>
    refine ⟨_, hA', ?_⟩
    rw [if_pos (by rfl)]
    refine k R kis μ' hR rc (fun x hx => ?_) hR' x'
    induction hx with
    | here => exact c0.resolve_right fun ⟨p, hp, _⟩ => nomatch hp
    | on h hq hx ih => exact (cl _ ih _ hq hx).resolve_right fun ⟨p, hp, _⟩ => nomatch hp
  | cons l0 ls0 =>
    refine ⟨_, hA', ?_⟩
    rw [if_neg (by simp)]
    refine ⟨fun δ2 μ2 => ∃ m', m' < m ∧ W m' δ2 μ2, fun _ _ h => h, l0 :: ls0, by rw [hA', List.map_map], by simp, by rw [List.length_cons] at hl ⊢; omega, fun b0 x0 ks' pm => ⟨_, rfl, rfl, ?_⟩⟩
    have lx : Lk qs c x0 := lk (b0, x0) (pm.mem_iff.mp List.mem_cons_self)
    have xin := lx.mem pn.po hc
    have pl := pm.length_eq
    rw [List.length_cons, List.length_cons] at pl
    rw [List.length_cons] at hl em
    have lk2 : ∀ p ∈ ks', Lk qs c p.2 := fun p hp => lk p (pm.mem_iff.mp (List.mem_cons_of_mem _ hp))
    have go2 : ∀ {y : Str}, (∃ p ∈ l0 :: ls0, p.2 = y) → y = x0 ∨ ∃ p ∈ ks', p.2 = y := fun {y} ⟨p, hp, e⟩ => by
      rcases List.mem_cons.mp (pm.mem_iff.mpr hp) with e2 | h
      · exact .inl (by rw [← e, e2])
      · exact .inr ⟨p, h, e⟩
    walk_at "dl"
    have hv := valA_kis x0 kis
    refine ⟨_, by rw [mset_ne nAR.symm]; exact hR', ?_⟩
    have A2 : mset μ' A (some (.lst (ks'.map (AV.dat ∘ DL.prD)))) A = some (.lst ((ks'.map DL.prD).map AV.dat)) := by rw [mset_same, List.map_map]
    have R2 : mset μ' A (some (.lst (ks'.map (AV.dat ∘ DL.prD)))) R = some (.dK (kisD kis)) := by rw [mset_ne nAR.symm]; exact hR'
    have x2 : ∀ b, μ b ≠ none → mset μ' A (some (.lst (ks'.map (AV.dat ∘ DL.prD)))) b = μ b := fun b hb => by rw [mset_ne fun z => hb (by rw [z]; exact hA)]; exact x' b hb
    generalize mset μ' A (some (.lst (ks'.map (AV.dat ∘ DL.prD)))) = μ2 at A2 R2 x2
    by_cases hk : x0 ∈ kis.map (·.1)
    · rw [if_neg fun z => by rw [z, decide_eq_true hk] at hv; cases hv]
      refine ⟨11 * (8 - kis.length) + ks'.length, by omega, kis, ks', _, _, _, _, _, rfl, rfl, rc, lk2, fun x hx q hq hx2 => ?_, ?_, by omega, R2, A2, x2⟩
      · rcases cl x hx q hq hx2 with h | h
        · exact .inl h
        · rcases go2 h with e | h
          · exact .inl (by rw [e]; exact hk)
          · exact .inr h
      · rcases c0 with h | h
        · exact .inl h
        · rcases go2 h with e | h
          · exact .inl (by rw [e]; exact hk)
          · exact .inr h
    · rw [if_pos (by cases e : valA (kisD kis) (.inr x0) with | none => rfl | some v => rw [e, decide_eq_false hk] at hv; cases hv)]
      refine ⟨_, R2, by unfold kisD; rw [List.length_map]; omega, ?_⟩
      have ek : putA (kisD kis) (.inr x0) (.dat (.int b0)) = kisD (kis ++ [(x0, b0)]) := by
        rw [putA_new fun z => hk (by
          obtain ⟨p, hp, e⟩ := List.mem_map.mp z
          obtain ⟨q, hq, rfl⟩ := List.mem_map.mp hp
          exact List.mem_map.mpr ⟨q, hq, Sum.inr.inj e⟩)]
        unfold kisD
        rw [List.map_append]
        rfl
      rw [ek]
      have rc2 : Reached ns qs c (kis ++ [(x0, b0)]) := ⟨by
        rw [List.map_append]
        exact List.nodup_append.mpr ⟨rc.nd, by simp, fun a ha b hb => by
          have : b = x0 := by simpa using hb
          rw [this]
          exact fun z => hk (by rw [← z]; exact ha)⟩, fun x hx => by
        rw [List.map_append] at hx
        rcases List.mem_append.mp hx with hx | hx
        · exact rc.lk x hx
        · have : x = x0 := by simpa using hx
          rw [this]; exact lx⟩
      have hk9 := k8 rc2
      rw [List.length_append, List.length_singleton] at hk9
      have R3 : mset μ2 R (some (.dK (kisD (kis ++ [(x0, b0)])))) R = some (.dK (kisD (kis ++ [(x0, b0)]))) := mset_same
      have A3 : mset μ2 R (some (.dK (kisD (kis ++ [(x0, b0)])))) A = some (.lst ((ks'.map DL.prD).map AV.dat)) := by rw [mset_ne nAR]; exact A2
      have x3 : ∀ b, μ b ≠ none → mset μ2 R (some (.dK (kisD (kis ++ [(x0, b0)])))) b = μ b := fun b hb => by rw [mset_ne fun z => hb (by rw [z]; exact hR)]; exact x2 b hb
      generalize mset μ2 R (some (.dK (kisD (kis ++ [(x0, b0)])))) = μ3 at R3 A3 x3
      have fl := List.length_filter_le (atB x0) qs
      refine for_by (μ1 := μ3) ((qs.filter (atB x0)).map (endD x0)) (fun Z z => by walk_at "dl"; exact ⟨r, ns, qs, x0, rfl, pn, xin, _, rfl, z⟩) (fun j δ2 μ4 => ∃ ls2 y6 y7 y8, δ2 = [some (.dat (planD r ns qs)), some (.dat (.str c)), some (.mut R), some (.mut A), some (.dat (.int b0)), some (.dat (.str x0)), y6, y7, y8] ∧ ls2.length = ks'.length + j ∧ (∀ p ∈ ks', p ∈ ls2) ∧
        (∀ q ∈ (qs.filter (atB x0)).take j, ∃ p ∈ ls2, p.2 = thr x0 q) ∧ (∀ p ∈ ls2, Lk qs c p.2) ∧ μ4 R = some (.dK (kisD (kis ++ [(x0, b0)]))) ∧ μ4 A = some (.lst ((ls2.map DL.prD).map AV.dat)) ∧ ∀ b, μ b ≠ none → μ4 b = μ b)
        ⟨ks', _, _, _, rfl, rfl, fun _ h => h, by simp, lk2, R3, A3, x3⟩ (fun j d δ2 μ4 hd ⟨ls2, y6, y7, y8, e1, l2, sub, th, lk3, R4, A4, x4⟩ => ?_) (fun δ2 μ4 ⟨ls2, y6, y7, y8, e1, l2, sub, th, lk3, R4, A4, x4⟩ => ?_)
      · subst e1
        rw [List.getElem?_map] at hd
        obtain ⟨q, hq, rfl⟩ := Option.map_eq_some_iff.mp hd
        have hj := (List.getElem?_eq_some_iff.mp hq).1
        have qm := List.mem_of_getElem? hq
        unfold endD
        walk_at "dl"
        refine ⟨by omega, ls2, b0 + q.2.2.2, thr x0 q, rfl, by rw [A4, List.map_map], by omega, fun ks3 pm3 => ⟨ks3, by rw [pm3.length_eq, List.length_append, List.length_singleton]; omega, fun a b h => pm3.mem_iff.mpr (List.mem_append_left _ (sub _ h)), fun a1 a2 a3 b h => ?_, fun a b h => ?_, by rw [mset_ne nAR.symm]; exact R4, rfl, fun b hb => by rw [mset_ne fun z => hb (by rw [z]; exact hA)]; exact x4 b hb⟩⟩
        · rw [List.take_add_one, hq] at h
          rcases List.mem_append.mp h with h | h
          · obtain ⟨⟨p1, p2⟩, hp, e⟩ := th _ h
            exact ⟨p1, pm3.mem_iff.mpr (List.mem_append_left _ (by rw [← e]; exact hp))⟩
          · have : (a1, a2, a3, b) = q := by simpa using h
            rw [this]
            exact ⟨_, pm3.mem_iff.mpr (List.mem_append_right _ (List.mem_singleton.mpr rfl))⟩
        · rcases List.mem_append.mp (pm3.mem_iff.mp h) with h | h
          · exact lk3 _ h
          · have : (a, b) = (b0 + q.2.2.2, thr x0 q) := by simpa using h
            cases this
            exact .on lx (List.mem_filter.mp qm).1 (List.mem_filter.mp qm).2
      · subst e1
        rw [List.length_map] at l2 th
        rw [List.take_length] at th
        refine ⟨11 * (8 - (kis.length + 1)) + ls2.length, by omega, kis ++ [(x0, b0)], ls2, _, _, _, _, _, rfl, by rw [List.length_append, List.length_singleton], rc2, lk3, fun x hx q hq hx2 => ?_, ?_, by rw [List.length_append, List.length_singleton]; omega, R4, A4, x4⟩
        · rw [List.map_append] at hx ⊢
          rcases List.mem_append.mp hx with hx | hx
          · rcases cl x hx q hq hx2 with h | h
            · exact .inl (List.mem_append_left _ h)
            · rcases go2 h with e | ⟨p, hp, e⟩
              · exact .inl (List.mem_append_right _ (by rw [e]; simp))
              · exact .inr ⟨p, sub p hp, e⟩
          · have : x = x0 := by simpa using hx
            rw [this] at hx2 ⊢
            exact .inr (th q (List.mem_filter.mpr ⟨hq, hx2⟩))
        · rw [List.map_append]
          rcases c0 with h | h
          · exact .inl (List.mem_append_left _ h)
          · rcases go2 h with e | ⟨p, hp, e⟩
            · exact .inl (List.mem_append_right _ (by rw [e]; simp))
            · exact .inr ⟨p, sub p hp, e⟩
def d_part_of : DOs := fun as μ Q => ∃ r ns qs c, as = [.dat (planD r ns qs), .dat (.str c)] ∧ PlanNm ns qs ∧ c ∈ ns ∧ ∀ ys μ', sortedS ys = true → (ys : List Str).Nodup → (∀ x, x ∈ ys ↔ Lk qs c x) → (∀ b, μ b ≠ none → μ' b = μ b) → Q (.dat (.list (ys.map PyData.str))) μ'
theorem ok_part_of (T : Txt K mg) (p_beats_from : Prm P w K mg base 2 "beats_from" 2 d_beats_from) {f : Addr} {fd : FuncData} (D : DefAt K mg "part_of" s_part_of ["plan", "caller"] f fd) : Prm P w K mg base 3 "part_of" 2 d_part_of := by
  refine prm_of D sc_part_of rfl (fun as μ Q ⟨r, ns, qs, c, e, _⟩ => by rw [e]; rfl) fun cdv A out s H hr hg => ⟨_, _,
(db_one (ds_ret (de_callB (call_sortedD rfl) (so_A1 so_sortD) (by rfl) T.n_sorted (by decide +kernel) (da_cons (de_call p_beats_from (hr.mono (by omega)) hg (by rfl) (da_cons (de_var (pv 0)) (da_cons (de_var (pv 1)) da_nil))) da_nil))))
    , fun as μ Q ⟨r, ns, qs, c, e, pn, hc, k⟩ => ?_⟩
  subst e
  have hsl : sizeLine = 16777216 := sizeLine_eq
  walk_at "dl"
  refine ⟨r, ns, qs, c, rfl, pn, hc, fun R kis μ' hR rc all hR' x' => ?_⟩
  refine ⟨R, kisD kis, kis.map (·.1), rfl, hR', by unfold kisD; rw [List.map_map, List.map_map]; rfl, ?_, fun ys pm hs => k ys μ' hs (pm.nodup_iff.mpr rc.nd) (fun x => ⟨fun h => rc.lk x (pm.mem_iff.mp h), fun h => pm.mem_iff.mpr (all x h)⟩) x'⟩
  have := nodup_sub rc.nd fun x hx => (rc.lk x hx).mem pn.po hc
  have := pn.po.n8
  omega
end
end K1


set_option maxHeartbeats 4000000
namespace K1
open PySem PySem.Spec PyProof.Rows L2 RZ DL
local macro_rules | `(tactic| walk_at "dl") => `(tactic| simp [and_assoc, mRet, mAnd, mOr, mCall, mCons, mVar, mCls, mNil, mC, oIsi, oIsi2, mNot, startD, mSeq, mIfS, mTOr, mTAnd, mTNot, mTest, mChain, mNext, oA1, oA2, oIB, oII, oII0, mOp, mUn, mAsg, mgName, mgTup, mgCons_c, mgNil_n, zipAs_l, zipAs_t, oSl_l, oSl_t, oSl_s, oSl_r, mPart, mSl, mIf, wipeD, oSign, oSS, oLen, LenD_s, LenD_l, LenD_t, LenD_m, miZ, miS, miT, miL, miE, miR, oEq, oNe, eqD_i, eqD_b, eqD_s, oInT, oIx, ixD_l, ixD_t, ixD_s, ixD_m, ix0, ix1, ix2, ix3, oAbs, oInt, oMax, oMin, mPar, mPar3, mTup, mLst, mLstM, asD, mExpr, itemsD_l, itemsD_t, oNeg, mgSub, mset_same, mIsN, mDrp, mTIsN, oEqW, eqW_n, eqW_b, eqW_i, eqW_s, non_n, non_b, non_i, non_s, non_l, non_t, miR2, mDNew, mDGet, mDPut, mDisp, mPairs, kD_s, kD_i, isStr, isTup, isLst, isBool, DL.isInt, mAppend, mDPop, oNeE, miM, DL.HoldL, mDIn, mDictZip, oRepU, mListZip, oDictP, mCallP, pick, oNotB, mExtend, oSortA, oSortAM, mTupM, oIxT, mgTupC, mCallB, miD, miC, mGh, miMix, Sk.dat, mUpdate, mItems, oDictD, oListM, oListC, oRepL, oSortT, mVals, mDGetT, mDInT, mDPutT, mDGet2T, mLockE, mLockS, mNever, oSumI, oMaxI, mgLstU, oHpop, oHpush, mTru, mStar, mCont, mMinVals, mPop0, mTIsNM])
section
variable {P : Program} {w : World} {K : PySem.W.Frag} {mg : Str → Option Value} {base : Heap}
/-- a row of steps: from each caller by a way to the next one; none twice -/
inductive Gone (qs : List Way) (a : Str) : List (Str × Way) → Str → Prop
  | nil : Gone qs a [] a
  | snoc {ps : List (Str × Way)} {x : Str} {q : Way} (h : Gone qs a ps x) (hq : q ∈ qs) (hx : atB x q = true) : Gone qs a (ps ++ [(x, q)]) (thr x q)
/-- .. such as the walks go -/
structure Walk (ns : List Str) (qs : List Way) (a : Str) (ps : List (Str × Way)) (x : Str) : Prop where
  gone : Gone qs a ps x
  cs : (ps.map (·.1) ++ [x]).Nodup
  ws : (ps.map (·.2)).Nodup
/-- a ring: steps that come to where they began -/
structure Ring (qs : List Way) (a : Str) (ps : List (Str × Way)) : Prop where
  gone : Gone qs a ps a
  cs : (ps.map (·.1)).Nodup
  ws : (ps.map (·.2)).Nodup
  ne : ps ≠ []
def walkD (p : List (Str × Way) × Str) : PyData := .tuple [.list (p.1.map hopD), .str p.2]
def rB : Nat → Nat
  | 0 => 1814400
  | 1 => 181440
  | 2 => 20160
  | 3 => 2520
  | 4 => 360
  | 5 => 60
  | 6 => 12
  | 7 => 3
  | _ => 1
def tB : Nat → Nat
  | 0 => 2606501
  | 1 => 260650
  | 2 => 28961
  | 3 => 3620
  | 4 => 517
  | 5 => 86
  | 6 => 17
  | 7 => 4
  | _ => 1
theorem rB_step : ∀ l, l ≤ 7 → rB l = (10 - l) * rB (l + 1)
  | 0, _ => rfl
  | 1, _ => rfl
  | 2, _ => rfl
  | 3, _ => rfl
  | 4, _ => rfl
  | 5, _ => rfl
  | 6, _ => rfl
  | 7, _ => rfl
  | l + 8, h => by omega
theorem tB_step : ∀ l, l ≤ 7 → tB l = 1 + (10 - l) * tB (l + 1)
  | 0, _ => rfl
  | 1, _ => rfl
  | 2, _ => rfl
  | 3, _ => rfl
  | 4, _ => rfl
  | 5, _ => rfl
  | 6, _ => rfl
  | 7, _ => rfl
  | l + 8, h => by omega
theorem rB_pos (l : Nat) : 1 ≤ rB l := by unfold rB; split <;> omega
theorem tB_pos (l : Nat) : 1 ≤ tB l := by unfold tB; split <;> omega
def wR (ws : List (List (Str × Way) × Str)) : Nat := (ws.map fun p => rB p.1.length).sum
def wT (ws : List (List (Str × Way) × Str)) : Nat := (ws.map fun p => tB p.1.length).sum
theorem wR_app (ws : List (List (Str × Way) × Str)) (p : List (Str × Way) × Str) : wR (ws ++ [p]) = wR ws + rB p.1.length := by simp [wR]
theorem wT_app (ws : List (List (Str × Way) × Str)) (p : List (Str × Way) × Str) : wT (ws ++ [p]) = wT ws + tB p.1.length := by simp [wT]
theorem wT_len : ∀ ws : List (List (Str × Way) × Str), ws.length ≤ wT ws
  | [] => Nat.le_refl _
  | p :: ws => by
    have := wT_len ws
    have := tB_pos p.1.length
    have e : wT (p :: ws) = tB p.1.length + wT ws := by simp [wT]
    rw [e, List.length_cons]
    omega
theorem Gone.all {ns : List Str} {qs : List Way} (po : PlanOk ns qs) {a x : Str} {ps : List (Str × Way)} (ha : a ∈ ns) (h : Gone qs a ps x) : (∀ p ∈ ps, p.1 ∈ ns ∧ p.2 ∈ qs ∧ atB p.1 p.2 = true) ∧ x ∈ ns := by
  induction h with
  | nil => exact ⟨fun p hp => (nomatch hp), ha⟩
  | snoc h hq hx ih =>
    refine ⟨fun p hp => ?_, thr_in po hq⟩
    rcases List.mem_append.mp hp with hp | hp
    · exact ih.1 p hp
    · rw [List.mem_singleton.mp hp]; exact ⟨ih.2, hq, hx⟩
theorem Walk.few {ns : List Str} {qs : List Way} (po : PlanOk ns qs) {a x : Str} {ps : List (Str × Way)} (ha : a ∈ ns) (h : Walk ns qs a ps x) : ps.length ≤ 7 := by
  have g := h.gone.all po ha
  have := nodup_sub h.cs fun y hy => by
    rcases List.mem_append.mp hy with hy | hy
    · obtain ⟨p, hp, rfl⟩ := List.mem_map.mp hy
      exact (g.1 p hp).1
    · rw [List.mem_singleton.mp hy]; exact g.2
  have := po.n8
  rw [List.length_append, List.length_map, List.length_singleton] at *
  omega
/-- ways that haven't been gone -/
def newB (ps : List (Str × Way)) (q : Way) : Bool := decide (q.1 ∉ ps.map fun p => p.2.1)
theorem new_few {qs : List Way} (wn : (qs.map (·.1)).Nodup) {ps : List (Str × Way)} (hw : (ps.map (·.2)).Nodup) (hp : ∀ p ∈ ps, p.2 ∈ qs) (f : Way → Bool) : ((qs.filter f).filter (newB ps)).length + ps.length ≤ qs.length := by
  have qn : qs.Nodup := (List.pairwise_map.mp wn).imp fun h e => h (by rw [e])
  have := nodup_sub (vs := ps.map (·.2) ++ (qs.filter f).filter (newB ps)) (ns := qs) (List.nodup_append.mpr ⟨hw, (qn.filter _).filter _, fun x hx y hy e => by
    have h1 := (List.mem_filter.mp hy).2
    unfold newB at h1
    have h1 := of_decide_eq_true h1
    rw [← e] at h1
    obtain ⟨p, hp, e2⟩ := List.mem_map.mp hx
    exact h1 (List.mem_map.mpr ⟨p, hp, by rw [e2]⟩)⟩) fun x hx => by
    rcases List.mem_append.mp hx with hx | hx
    · obtain ⟨p, h1, rfl⟩ := List.mem_map.mp hx
      exact hp p h1
    · exact (List.mem_filter.mp (List.mem_filter.mp hx).1).1
  rw [List.length_append, List.length_map] at this
  omega
theorem snoc_of {α : Type} {ps t : List α} {e e0 : α} {l : List α} (h : l ++ [e] = ps ++ e0 :: t) : (t = [] ∧ l = ps ∧ e = e0) ∨ ∃ t0, t = t0 ++ [e] ∧ l = ps ++ e0 :: t0 := by
  rcases List.eq_nil_or_concat t with rfl | ⟨t0, e1, rfl⟩
  · have := List.append_inj' (show l ++ [e] = ps ++ [e0] from h) (by simp)
    exact .inl ⟨rfl, this.1, by simpa using this.2⟩
  · rw [List.concat_eq_append] at *
    have := List.append_inj' (show l ++ [e] = (ps ++ e0 :: t0) ++ [e1] by rw [h]; simp) (by simp)
    have e2 : e = e1 := by simpa using this.2
    exact .inr ⟨t0, by rw [e2], this.1⟩
theorem Gone.split {qs : List Way} {a z y : Str} {q : Way} {l : List (Str × Way)} (h : Gone qs a l z) : ∀ {ps t : List (Str × Way)}, l = ps ++ (y, q) :: t → Gone qs a ps y ∧ q ∈ qs ∧ atB y q = true := by
  induction h with
  | nil => intro ps t e; cases ps <;> cases e
  | snoc h hq hx ih =>
    intro ps t e
    rcases snoc_of e with ⟨rfl, e1, e2⟩ | ⟨t0, _, e1⟩
    · cases e2
      rw [← e1]
      exact ⟨h, hq, hx⟩
    · exact ih e1
theorem Gone.end_same {qs : List Way} {a z y : Str} {l m : List (Str × Way)} (h : Gone qs a l z) (h2 : Gone qs a m y) (e : l = m) : z = y := by
  cases h with
  | nil => cases h2 with
    | nil => rfl
    | snoc _ _ _ => exact absurd e (by simp)
  | snoc h hq hx => cases h2 with
    | nil => exact absurd e (by simp)
    | snoc h3 hq3 hx3 =>
      have := List.append_inj' e (by simp)
      have := this.2
      simp only [List.cons.injEq, Prod.mk.injEq, and_true] at this
      rw [this.1, this.2]
theorem Gone.first {qs : List Way} {a z y : Str} {q : Way} {t : List (Str × Way)} (h : Gone qs a ((y, q) :: t) z) : y = a := by
  have := (h.split (ps := []) rfl).1
  exact (Gone.end_same this .nil rfl)
/-- the callers beside the first one are greater -/
def Least (a : Str) (rp : List (Str × Way)) : Prop := ∀ p ∈ rp, p.1 ≠ a → a.cps < p.1.cps
/-- where a ring goes on behind steps that it begins with -/
theorem Ring.on {qs : List Way} {a z : Str} {ps rp : List (Str × Way)} (r : Ring qs a rp) (g : Gone qs a ps z) (h : ps <+: rp) : (rp = ps ∧ z = a) ∨ ∃ q t, rp = ps ++ (z, q) :: t ∧ q ∈ qs ∧ atB z q = true ∧ z ∉ ps.map (·.1) := by
  obtain ⟨t, rfl⟩ := h
  cases t with
  | nil => exact .inl ⟨by simp, by rw [List.append_nil] at r; exact g.end_same r.gone rfl⟩
  | cons e t =>
    obtain ⟨y, q⟩ := e
    obtain ⟨h1, h2, h3⟩ := r.gone.split rfl
    have e : z = y := g.end_same h1 rfl
    subst e
    refine .inr ⟨q, t, rfl, h2, h3, fun hz => ?_⟩
    have := r.cs
    rw [List.map_append] at this
    exact (List.nodup_append.mp this).2.2 _ hz _ List.mem_cons_self rfl
theorem first_in {qs : List Way} {a z : Str} {ps : List (Str × Way)} (g : Gone qs a ps z) (ne : ps ≠ []) : a ∈ ps.map (·.1) := by
  cases ps with
  | nil => exact absurd rfl ne
  | cons e t =>
    obtain ⟨y, q⟩ := e
    rw [g.first]
    exact List.mem_cons_self
/-- all rings from a whose other callers are greater: found, or begun by a walk, or by what's pending -/
structure Full (qs : List Way) (a : Str) (rs : List (List (Str × Way))) (ws : List (List (Str × Way) × Str)) (pend : List (List (Str × Way))) : Prop where
  all : ∀ rp, Ring qs a rp → Least a rp → rp ∈ rs ∨ (∃ p ∈ ws, p.1 <+: rp) ∨ ∃ p ∈ pend, p <+: rp
theorem Full.start {qs : List Way} {a : Str} : Full qs a [] [([], a)] [] := ⟨fun rp _ _ => .inr (.inl ⟨_, List.mem_singleton.mpr rfl, List.nil_prefix⟩)⟩
theorem Full.last {qs : List Way} {a : Str} {rs : List (List (Str × Way))} (F : Full qs a rs [] []) {rp : List (Str × Way)} (r : Ring qs a rp) (l : Least a rp) : rp ∈ rs := by
  rcases F.all rp r l with h | ⟨p, hp, _⟩ | ⟨p, hp, _⟩
  · exact h
  · cases hp
  · cases hp
theorem Full.pop {ns : List Str} {qs : List Way} {a x : Str} {rs : List (List (Str × Way))} {ws : List (List (Str × Way) × Str)} {ps : List (Str × Way)} (F : Full qs a rs (ws ++ [(ps, x)]) []) (W : Walk ns qs a ps x) : Full qs a rs ws (((qs.filter (atB x)).map fun q => ps ++ [(x, q)]).drop 0) := ⟨fun rp r l => by
  rcases F.all rp r l with h | ⟨p, hp, h⟩ | ⟨p, hp, _⟩
  · exact .inl h
  · rcases List.mem_append.mp hp with hp | hp
    · exact .inr (.inl ⟨p, hp, h⟩)
    · rw [List.mem_singleton.mp hp] at h
      rcases r.on W.gone h with ⟨e, e2⟩ | ⟨q, t, e, h2, h3, _⟩
      · have h1 := first_in W.gone (by rw [← e]; exact r.ne)
        exact absurd e2.symm ((List.nodup_append.mp W.cs).2.2 a h1 x (by simp))
      · exact .inr (.inr ⟨_, List.mem_map.mpr ⟨q, List.mem_filter.mpr ⟨h2, h3⟩, rfl⟩, by rw [e]; exact ⟨t, by simp⟩⟩)
  · cases hp⟩
theorem Full.less {qs : List Way} {a : Str} {rs rs2 : List (List (Str × Way))} {ws ws2 : List (List (Str × Way) × Str)} {p : List (Str × Way)} {pend : List (List (Str × Way))} (F : Full qs a rs ws (p :: pend)) (h1 : ∀ r ∈ rs, r ∈ rs2) (h2 : ∀ r ∈ ws, r ∈ ws2)
    (h : ∀ rp, Ring qs a rp → Least a rp → p <+: rp → rp ∈ rs2 ∨ ∃ p ∈ ws2, p.1 <+: rp) : Full qs a rs2 ws2 pend := ⟨fun rp r l => by
  rcases F.all rp r l with g | ⟨p, hp, g⟩ | ⟨p', hp, g⟩
  · exact .inl (h1 _ g)
  · exact .inr (.inl ⟨p, h2 _ hp, g⟩)
  · rcases List.mem_cons.mp hp with e | hp
    · rw [e] at g
      exact (h rp r l g).imp id .inl
    · exact .inr (.inr ⟨p', hp, g⟩)⟩
theorem nodup_at {α β : Type} {f : α → β} : ∀ {l : List α}, (l.map f).Nodup → ∀ {a b : α}, a ∈ l → b ∈ l → f a = f b → a = b
  | x :: l, h, a, b, ha, hb, e => by
    obtain ⟨h1, h2⟩ := List.nodup_cons.mp (by rwa [List.map_cons] at h)
    rcases List.mem_cons.mp ha with ea | ha
    · rcases List.mem_cons.mp hb with eb | hb
      · rw [ea, eb]
      · exact absurd (List.mem_map.mpr ⟨b, hb, by rw [← e, ea]⟩) h1
    · rcases List.mem_cons.mp hb with eb | hb
      · exact absurd (List.mem_map.mpr ⟨a, ha, by rw [e, eb]⟩) h1
      · exact nodup_at h2 ha hb e
def d_rings_from : DOs := fun as μ Q => ∃ r ns qs a, as = [.dat (planD r ns qs), .dat (.str a)] ∧ PlanNm ns qs ∧ a ∈ ns ∧ ∀ (F : Addr) (rs : List (List (Str × Way))) (μ' : Mu), μ F = none → (∀ ps ∈ rs, Ring qs a ps) → (∀ ps, Ring qs a ps → Least a ps → ps ∈ rs) → rs.length ≤ 1900000 → μ' F = some (.lst ((rs.map fun ps => PyData.list (ps.map hopD)).map AV.dat)) → (∀ b, μ b ≠ none → μ' b = μ b) → Q (.mut F) μ'
theorem ok_rings_from (T : Txt K mg) (p_ways_at : Prm P w K mg base 2 "ways_at" 2 d_ways_at) {f : Addr} {fd : FuncData} (D : DefAt K mg "_rings_from" s_rings_from ["plan", "first"] f fd) : Prm P w K mg base 3 "_rings_from" 2 d_rings_from := by
  refine prm_of D sc_rings_from rfl (fun as μ Q ⟨r, ns, qs, c, e, _⟩ => by rw [e]; rfl) fun cdv A out s H hr hg => ⟨_, _,
(db_cons (ds_setE (i := 2) sc_rings_from.nd rfl (by first | exact Or.inl rfl | exact Or.inr rfl) (dm_lst da_nil))
    (db_cons (ds_setE (i := 3) sc_rings_from.nd rfl (by first | exact Or.inl rfl | exact Or.inr rfl) (dm_lst (da_cons (de_tup (da_cons (de_lst da_nil) (da_cons (de_var (pv 1)) da_nil))) da_nil)))
    (db_cons (ds_while PassesOwn.never (dt_tru (de_var (pv 3))) (db_cons (ds_asg (vs := [4, 5]) (de_pop0 (de_var (pv 3))) (dg_tup (K := K) (n := 2) rfl rfl (dgs_cons (dg_name (pg_name (i := 4) sc_rings_from.nd rfl (by first | exact Or.inl rfl | exact Or.inr rfl)) (by decide)) (dgs_cons (dg_name (pg_name (i := 5) sc_rings_from.nd rfl (by first | exact Or.inl rfl | exact Or.inr rfl)) (by decide)) dgs_nil))))
    (db_one (ds_for (vs := [6, 7]) PassesOwn.never rfl (di_list (de_call p_ways_at (hr.mono (by omega)) hg (by rfl) (da_cons (de_var (pv 0)) (da_cons (de_var (pv 5)) da_nil)))) (dg_tup (K := K) (n := 2) rfl rfl (dgs_cons (dg_name (pg_name (i := 6) sc_rings_from.nd rfl (by first | exact Or.inl rfl | exact Or.inr rfl)) (by decide)) (dgs_cons (dg_name (pg_name (i := 7) sc_rings_from.nd rfl (by first | exact Or.inl rfl | exact Or.inr rfl)) (by decide)) dgs_nil))) (db_cons (ds_if (dt_cmp (op_inD (hu65 hr)) so_inL (de_var (pv 6)) (de_lc (own := [("_", 9), ("used", 10)]) rfl sc_rings_from.nd (di_list (de_var (pv 4))) (blkOk_by (N := N_rings_from) (sc := defScope s_rings_from) (by decide +kernel)) (fun _ _ _ _ _ => (dg_tup (K := K) (n := 2) rfl rfl (dgs_cons (dg_name (pg_name (i := 9) sc_rings_from.nd rfl (by first | exact Or.inl rfl | exact Or.inr rfl)) (by decide)) (dgs_cons (dg_name (pg_name (i := 10) sc_rings_from.nd rfl (by first | exact Or.inl rfl | exact Or.inr rfl)) (by decide)) dgs_nil)))) (fun _ _ _ _ _ => dts_nil) (fun _ _ _ _ _ => (de_var (pv 10))))) (db_one ds_cont) db_nil)
    (db_cons (ds_setE (i := 8) sc_rings_from.nd rfl (by first | exact Or.inl rfl | exact Or.inr rfl) (de_lst (da_star (de_var (pv 4)) (da_cons (de_tup (da_cons (de_var (pv 5)) (da_cons (de_var (pv 6)) da_nil))) da_nil))))
    (db_one (ds_if (dt_cmp op_eq so_eq (de_var (pv 7)) (de_var (pv 1))) (db_one (ds_expr (de_appendE (de_var (pv 2)) (da_cons (de_var (pv 8)) da_nil)))) (db_one (ds_if (DW.dt (dw_and (dt_cmp op_gt_str so_SS (de_var (pv 7)) (de_var (pv 1))) (dw_and1 (dt_cmp (op_notInD (hu65 hr)) so_notInL (de_var (pv 7)) (de_lc (own := [("passed", 11), ("_", 9)]) rfl sc_rings_from.nd (di_list (de_var (pv 8))) (blkOk_by (N := N_rings_from) (sc := defScope s_rings_from) (by decide +kernel)) (fun _ _ _ _ _ => (dg_tup (K := K) (n := 2) rfl rfl (dgs_cons (dg_name (pg_name (i := 11) sc_rings_from.nd rfl (by first | exact Or.inl rfl | exact Or.inr rfl)) (by decide)) (dgs_cons (dg_name (pg_name (i := 9) sc_rings_from.nd rfl (by first | exact Or.inl rfl | exact Or.inr rfl)) (by decide)) dgs_nil)))) (fun _ _ _ _ _ => dts_nil) (fun _ _ _ _ _ => (de_var (pv 11)))))))) (db_one (ds_expr (de_appendE (de_var (pv 3)) (da_cons (de_tup (da_cons (de_var (pv 8)) (da_cons (de_var (pv 7)) da_nil))) da_nil)))) db_nil))))))))))
    (db_one (ds_ret (de_var (pv 2)))))))
    , fun as μ Q ⟨r, ns, qs, a, e, pn, ha, k⟩ => ?_⟩
  subst e
  have q10 := pn.po.q10
  have hsl : sizeLine = 16777216 := sizeLine_eq
  walk_at "dl"
  refine fun F hF => ⟨by omega, by omega, fun A hA => ?_⟩
  have nAF : A ≠ F := fun z => by rw [z, mset_same] at hA; cases hA
  rw [mset_ne nAF] at hA
  let St : Nat → Dl → Mu → Prop := fun m δ' μ' => ∃ (rs : List (List (Str × Way))) (ws : List (List (Str × Way) × Str)) (y4 y5 y6 y7 y8 y9 y10 y11 : Option AV), δ' = [some (.dat (planD r ns qs)), some (.dat (.str a)), some (.mut F), some (.mut A), y4, y5, y6, y7, y8, y9, y10, y11] ∧ m = wT ws ∧
    (∀ p ∈ ws, Walk ns qs a p.1 p.2) ∧ (∀ ps ∈ rs, Ring qs a ps) ∧ Full qs a rs ws [] ∧ rs.length + wR ws ≤ 1814400 ∧ wT ws ≤ 2606501 ∧ μ' F = some (.lst ((rs.map fun ps => PyData.list (ps.map hopD)).map AV.dat)) ∧ μ' A = some (.lst ((ws.map walkD).map AV.dat)) ∧ ∀ b, μ b ≠ none → μ' b = μ b
  refine ⟨St, ⟨_, [], [([], a)], _, _, _, _, _, _, _, _, rfl, rfl, fun p hp => by rw [List.mem_singleton.mp hp]; exact ⟨.nil, by simp, by simp⟩, (fun ps h => nomatch h), Full.start, by simp [wR, rB], by simp [wT, tB], by rw [mset_ne nAF.symm, mset_same]; rfl, by rw [mset_same]; rfl, fun b hb => by rw [mset_ne fun z => hb (by rw [z]; exact hA), mset_ne fun z => hb (by rw [z]; exact hF)]⟩, ?_⟩
  rintro m δ' μ' ⟨rs, ws, y4, y5, y6, y7, y8, y9, y10, y11, e1, em, hws, hrs, hfu, hR, hT, hF', hA', x'⟩
  subst e1
  walk_at "dl"
  refine ⟨_, hA', ?_⟩
  rcases List.eq_nil_or_concat ws with rfl | ⟨ws0, ⟨ps, x⟩, rfl⟩
  · rw [if_pos (by rfl)]
    exact k F rs μ' hF hrs (fun ps r l => hfu.last r l) (by omega) hF' x'
  · rw [if_neg (by simp)]
    rw [List.concat_eq_append] at *
    have hW : Walk ns qs a ps x := hws (ps, x) (by simp)
    have hws0 : ∀ p ∈ ws0, Walk ns qs a p.1 p.2 := fun p hp => hws p (by simp [hp])
    have hal := hW.gone.all pn.po ha
    have h7 := hW.few pn.po ha
    rw [wR_app] at hR
    rw [wT_app] at hT em
    refine ⟨fun δ2 μ2 => ∃ m', m' < m ∧ St m' δ2 μ2, fun _ _ h => h, (ws0.map walkD).map AV.dat, .dat (walkD (ps, x)), by rw [hA']; simp, ?_⟩
    unfold walkD
    walk_at "dl"
    have A2 : mset μ' A (some (.lst (ws0.map (AV.dat ∘ fun p : List (Str × Way) × Str => PyData.tuple [PyData.list (p.1.map hopD), PyData.str p.2])))) A = some (.lst ((ws0.map walkD).map AV.dat)) := by rw [mset_same, List.map_map]; rfl
    have F2 : mset μ' A (some (.lst (ws0.map (AV.dat ∘ fun p : List (Str × Way) × Str => PyData.tuple [PyData.list (p.1.map hopD), PyData.str p.2])))) F = some (.lst ((rs.map fun ps => PyData.list (ps.map hopD)).map AV.dat)) := by rw [mset_ne nAF.symm]; exact hF'
    have x2 : ∀ b, μ b ≠ none → mset μ' A (some (.lst (ws0.map (AV.dat ∘ fun p : List (Str × Way) × Str => PyData.tuple [PyData.list (p.1.map hopD), PyData.str p.2])))) b = μ b := fun b hb => by rw [mset_ne fun z => hb (by rw [z]; exact hA)]; exact x' b hb
    generalize mset μ' A (some (.lst (ws0.map (AV.dat ∘ fun p : List (Str × Way) × Str => PyData.tuple [PyData.list (p.1.map hopD), PyData.str p.2])))) = μ2 at A2 F2 x2
    have fl := List.length_filter_le (atB x) qs
    have few := new_few pn.wn hW.ws (fun p hp => (hal.1 p hp).2.1) (atB x)
    have rs1 := rB_step ps.length h7
    have ts1 := tB_step ps.length h7
    have hR : rs.length + (wR ws0 + rB ps.length) ≤ 1814400 := hR
    have hT : wT ws0 + tB ps.length ≤ 2606501 := hT
    have em : m = wT ws0 + tB ps.length := em
    refine for_by (μ1 := μ2) ((qs.filter (atB x)).map (legD x)) (fun Z z => by walk_at "dl"; exact ⟨r, ns, qs, x, rfl, pn, hal.2, _, rfl, z⟩) (fun j δ2 μ4 => ∃ (rs2 : List (List (Str × Way))) (ws2 : List (List (Str × Way) × Str)) (y6 y7 y8 y9 y10 y11 : Option AV), δ2 = [some (.dat (planD r ns qs)), some (.dat (.str a)), some (.mut F), some (.mut A), some (.dat (.list (ps.map hopD))), some (.dat (.str x)), y6, y7, y8, y9, y10, y11] ∧
        (∀ p ∈ ws2, Walk ns qs a p.1 p.2) ∧ (∀ ps ∈ rs2, Ring qs a ps) ∧ Full qs a rs2 ws2 (((qs.filter (atB x)).map fun q => ps ++ [(x, q)]).drop j) ∧ rs2.length + wR ws2 ≤ rs.length + wR ws0 + (((qs.filter (atB x)).take j).filter (newB ps)).length * rB (ps.length + 1) ∧ wT ws2 ≤ wT ws0 + (((qs.filter (atB x)).take j).filter (newB ps)).length * tB (ps.length + 1) ∧
        μ4 F = some (.lst ((rs2.map fun ps => PyData.list (ps.map hopD)).map AV.dat)) ∧ μ4 A = some (.lst ((ws2.map walkD).map AV.dat)) ∧ ∀ b, μ b ≠ none → μ4 b = μ b)
        ⟨rs, ws0, _, _, _, _, _, _, rfl, hws0, hrs, hfu.pop hW, by simp, by simp, F2, A2, x2⟩ (fun j d δ2 μ4 hd ⟨rs2, ws2, y6, y7, y8, y9, y10, y11, e1, hws2, hrs2, hfu2, hR2, hT2, F4, A4, x4⟩ => ?_) (fun δ2 μ4 ⟨rs2, ws2, y6, y7, y8, y9, y10, y11, e1, hws2, hrs2, hfu2, hR2, hT2, F4, A4, x4⟩ => ?_)
    · subst e1
      rw [List.getElem?_map] at hd
      obtain ⟨q, hq, rfl⟩ := Option.map_eq_some_iff.mp hd
      have qm := List.mem_filter.mp (List.mem_of_getElem? hq)
      have tk : ((qs.filter (atB x)).take (j + 1)).filter (newB ps) = ((qs.filter (atB x)).take j).filter (newB ps) ++ if newB ps q = true then [q] else [] := by
        rw [List.take_add_one, hq, List.filter_append]
        congr 1
        cases e : newB ps q <;> simp [e]
      have dj : ((qs.filter (atB x)).map fun q => ps ++ [(x, q)]).drop j = (ps ++ [(x, q)]) :: ((qs.filter (atB x)).map fun q => ps ++ [(x, q)]).drop (j + 1) := by
        obtain ⟨h1, h2⟩ := List.getElem?_eq_some_iff.mp hq
        rw [List.drop_eq_getElem_cons (by rw [List.length_map]; exact h1), List.getElem_map, h2]
      rw [dj] at hfu2
      have jf : (((qs.filter (atB x)).take (j + 1)).filter (newB ps)).length + ps.length ≤ 10 := by
        have := ((List.take_sublist (j + 1) (qs.filter (atB x))).filter (newB ps)).length_le
        omega
      rw [tk] at jf
      unfold legD
      walk_at "dl"
      refine lc_T (μ1 := μ4) ps hopD (fun _ => true) (fun p => .str p.2.1) (fun Z z => by walk_at "dl"; exact z) (by omega) (fun p hp ν R1 R0 fr r1 r0 => by unfold hopD; walk_at "dl"; exact r1 rfl) ?_
      rw [List.filter_eq_self.mpr fun _ _ => rfl, show (ps.map fun p : Str × Way => PyData.str p.2.1) = (ps.map fun p => p.2.1).map PyData.str by rw [List.map_map]; rfl]
      have usedk : ∀ s ∈ ps.map (fun p : Str × Way => p.2.1), nmOk s := fun s hs => by
        obtain ⟨p, hp, rfl⟩ := List.mem_map.mp hs
        exact pn.wok _ (hal.1 p hp).2.1
      refine ⟨_, _, .dat _, .dat _, nm_shaped (pn.wok q qm.1), shaped_strs usedk, ?_⟩
      rw [memD_strs]
      by_cases hu : q.1 ∈ ps.map fun p => p.2.1
      · have nb : newB ps q = false := decide_eq_false fun z => z hu
        rw [tk, nb]
        simp only [Bool.false_eq_true, if_false, List.append_nil]
        refine .inr ⟨by rw [decide_eq_true hu], rs2, ws2, fun p1 p2 h => hws2 _ h, hrs2, hfu2.less (fun _ h => h) (fun _ h => h) (fun rp r l g => ?_), hR2, hT2, by rw [F4, List.map_map], by rw [A4, List.map_map], x4⟩
        obtain ⟨t, rfl⟩ := g
        obtain ⟨p, hp, e⟩ := List.mem_map.mp hu
        have e2 : p.2 = q := nodup_at pn.wn (hal.1 p hp).2.1 qm.1 e
        have w := r.ws
        rw [List.map_append, List.map_append] at w
        exact absurd e2 ((List.nodup_append.mp (List.nodup_append.mp w).1).2.2 _ (List.mem_map.mpr ⟨p, hp, rfl⟩) _ (by simp))
      · have nb : newB ps q = true := decide_eq_true hu
        rw [nb, if_pos rfl, List.length_append, List.length_singleton] at jf
        rw [tk, nb, if_pos rfl, List.length_append, List.length_singleton, Nat.add_mul, Nat.add_mul, Nat.one_mul, Nat.one_mul]
        have more : Gone qs a (ps ++ [(x, q)]) (thr x q) := .snoc hW.gone qm.1 qm.2
        have rp := rB_pos (ps.length + 1)
        have ln : (ps ++ [(x, q)]).length = ps.length + 1 := by simp
        have wsn : ((ps ++ [(x, q)]).map (·.2)).Nodup := by
          rw [List.map_append]
          refine List.nodup_append.mpr ⟨hW.ws, by simp, fun y hy z hz e => hu ?_⟩
          have : z = q := by simpa using hz
          rw [← this, ← e]
          obtain ⟨p, hp, rfl⟩ := List.mem_map.mp hy
          exact List.mem_map.mpr ⟨p, hp, rfl⟩
        have csn : ((ps ++ [(x, q)]).map (·.1)).Nodup := by rw [List.map_append]; exact hW.cs
        have edata : asD ((ps.map hopD).map AV.dat ++ [AV.dat (.tuple [.str x, .str q.1])]) = some ((ps ++ [(x, q)]).map hopD) := by
          rw [show (ps.map hopD).map AV.dat ++ [AV.dat (.tuple [.str x, .str q.1])] = ((ps ++ [(x, q)]).map hopD).map AV.dat by rw [List.map_append, List.map_append]; rfl]
          exact asD_map _
        refine .inl ⟨by rw [decide_eq_false hu], _, .inl rfl, by omega, _, edata, by rw [List.length_map, ln]; omega, ?_⟩
        generalize hPS : ps ++ [(x, q)] = PS at *
        have F5 : μ4 F = some (.lst (rs2.map (AV.dat ∘ fun ps => PyData.list (ps.map hopD)))) := by rw [F4, List.map_map]
        have A5 : μ4 A = some (.lst (ws2.map (AV.dat ∘ walkD))) := by rw [A4, List.map_map]
        have m1 : (((qs.filter (atB x)).take j).filter (newB ps)).length * rB (ps.length + 1) + rB (ps.length + 1) ≤ (10 - ps.length) * rB (ps.length + 1) := by
          rw [← Nat.succ_mul]
          exact Nat.mul_le_mul_right _ (by omega)
        have m2 : (((qs.filter (atB x)).take j).filter (newB ps)).length * tB (ps.length + 1) + tB (ps.length + 1) ≤ (10 - ps.length) * tB (ps.length + 1) := by
          rw [← Nat.succ_mul]
          exact Nat.mul_le_mul_right _ (by omega)
        have wl := wT_len ws2
        by_cases hc : thr x q = a
        · have in1 : ∀ rp, Ring qs a rp → PS <+: rp → rp ∈ rs2 ++ [PS] := fun rp r g => by
            rcases r.on more g with ⟨e, _⟩ | ⟨_, _, _, _, _, nz⟩
            · rw [e]; simp
            · rw [hc] at nz
              exact absurd (first_in more (by rw [← hPS]; simp)) nz
          refine .inr ⟨hc, ⟨_, F5⟩, _, F5, by rw [List.length_map]; omega, rs2 ++ [PS], ws2, fun p1 p2 h => hws2 _ h, fun p hp => ?_, hfu2.less (fun _ h => List.mem_append_left _ h) (fun _ h => h) (fun rp r l g => .inl (in1 rp r g)), by rw [List.length_append, List.length_singleton]; omega, by omega, by rw [List.map_append]; rfl, by rw [mset_ne nAF]; exact A5, fun b hb => by rw [mset_ne fun z => hb (by rw [z]; exact hF)]; exact x4 b hb⟩
          rcases List.mem_append.mp hp with hp | hp
          · exact hrs2 p hp
          · rw [List.mem_singleton.mp hp]
            exact ⟨by have := more; rwa [hc] at this, csn, wsn, by rw [← hPS]; simp⟩
        · refine .inl ⟨hc, ?_⟩
          have same : Full qs a rs2 ws2 (((qs.filter (atB x)).map fun q => ps ++ [(x, q)]).drop (j + 1)) → ∃ (x_1 : List (List (Str × Way))) (x_2 : List (List (Str × Way) × Str)), (∀ (a_1 : List (Str × Way)) (b : Str), (a_1, b) ∈ x_2 → Walk ns qs a a_1 b) ∧ (∀ ps ∈ x_1, Ring qs a ps) ∧ Full qs a x_1 x_2 (((qs.filter (atB x)).map fun q => ps ++ [(x, q)]).drop (j + 1)) ∧ x_1.length + wR x_2 ≤ rs.length + wR ws0 + ((((qs.filter (atB x)).take j).filter (newB ps)).length * rB (ps.length + 1) + rB (ps.length + 1)) ∧
              wT x_2 ≤ wT ws0 + ((((qs.filter (atB x)).take j).filter (newB ps)).length * tB (ps.length + 1) + tB (ps.length + 1)) ∧ μ4 F = some (.lst (x_1.map (AV.dat ∘ fun ps => PyData.list (ps.map hopD)))) ∧ μ4 A = some (.lst (x_2.map (AV.dat ∘ walkD))) ∧ ∀ b, ¬μ b = none → μ4 b = μ b :=
            fun hf => ⟨rs2, ws2, fun p1 p2 h => hws2 _ h, hrs2, hf, by omega, by omega, F5, A5, x4⟩
          by_cases hg : a.cps < (thr x q).cps
          · rw [if_pos hg]
            refine lc_T (μ1 := μ4) PS hopD (fun _ => true) (fun p => .str p.1) (fun Z z => by walk_at "dl"; exact z) (by omega) (fun p hp ν R1 R0 fr r1 r0 => by unfold hopD; walk_at "dl"; exact r1 rfl) ?_
            rw [List.filter_eq_self.mpr fun _ _ => rfl, show (PS.map fun p : Str × Way => PyData.str p.1) = (PS.map fun p => p.1).map PyData.str by rw [List.map_map]; rfl]
            have al2 := more.all pn.po ha
            refine ⟨_, _, .dat _, .dat _, nm_shaped (pn.nok _ al2.2), shaped_strs fun s hs => ?_, ?_⟩
            · obtain ⟨p, hp, rfl⟩ := List.mem_map.mp hs
              exact pn.nok _ (al2.1 p hp).1
            rw [memD_strs]
            by_cases hp : thr x q ∈ PS.map fun p => p.1
            · exact .inl ⟨by rw [decide_eq_true hp]; rfl, same (hfu2.less (fun _ h => h) (fun _ h => h) fun rp r l g => (r.on more g).elim (fun e => absurd e.2 hc) fun ⟨_, _, _, _, _, nz⟩ => absurd hp nz)⟩
            · refine .inr ⟨by rw [decide_eq_false hp]; rfl, ⟨_, A5⟩, by omega, _, A5, by rw [List.length_map]; omega, rs2, ws2 ++ [(PS, thr x q)], fun p1 p2 h => ?_, hrs2, hfu2.less (fun _ h => h) (fun _ h => List.mem_append_left _ h) (fun rp r l g => .inr ⟨(PS, thr x q), by simp, g⟩), by rw [wR_app]; show _ + (_ + rB PS.length) ≤ _; rw [ln]; omega, by rw [wT_app]; show _ + tB PS.length ≤ _; rw [ln]; omega, by rw [mset_ne nAF.symm]; exact F5, by rw [List.map_append]; rfl, fun b hb => by rw [mset_ne fun z => hb (by rw [z]; exact hA)]; exact x4 b hb⟩
              rcases List.mem_append.mp h with h | h
              · exact hws2 _ h
              · cases List.mem_singleton.mp h
                exact ⟨more, List.nodup_append.mpr ⟨csn, by simp, fun y hy z hz e => hp (by have : z = thr x q := (by simpa using hz); rw [← this, ← e]; exact hy)⟩, wsn⟩
          · rw [if_neg hg]
            exact same (hfu2.less (fun _ h => h) (fun _ h => h) fun rp r l g => (by
              rcases r.on more g with ⟨_, e⟩ | ⟨q', t, e, _, _, nz⟩
              · exact absurd e hc
              · exact absurd (l (thr x q, q') (by rw [e]; simp) hc) hg))
    · subst e1
      rw [List.length_map, List.take_length] at hR2 hT2
      have m1 : ((qs.filter (atB x)).filter (newB ps)).length * rB (ps.length + 1) ≤ (10 - ps.length) * rB (ps.length + 1) := Nat.mul_le_mul_right _ (by omega)
      have m2 : ((qs.filter (atB x)).filter (newB ps)).length * tB (ps.length + 1) ≤ (10 - ps.length) * tB (ps.length + 1) := Nat.mul_le_mul_right _ (by omega)
      exact ⟨wT ws2, by omega, rs2, ws2, _, _, _, _, _, _, _, _, rfl, rfl, hws2, hrs2, by rw [List.drop_of_length_le (by rw [List.length_map, List.length_map]; exact Nat.le_refl _)] at hfu2; exact hfu2, by omega, by omega, F4, A4, x4⟩
def d_rings_of : DOs := fun as μ Q => ∃ r ns qs c, as = [.dat (planD r ns qs), .dat (.str c)] ∧ PlanNm ns qs ∧ c ∈ ns ∧ ∀ (rs : List (List (Str × Way))) (μ' : Mu), (∀ ps ∈ rs, ∃ a, a ∈ ns ∧ Lk qs c a ∧ Ring qs a ps) → (∀ b, μ b ≠ none → μ' b = μ b) → rs.length ≤ 15200000 → (∀ a ps, Lk qs c a → Ring qs a ps → Least a ps → ps ∈ rs) → Q (.dat (.list (rs.map fun ps => PyData.list (ps.map hopD)))) μ'
theorem ok_rings_of (T : Txt K mg) (p_part_of : Prm P w K mg base 3 "part_of" 2 d_part_of) (p_rings_from : Prm P w K mg base 3 "_rings_from" 2 d_rings_from) {f : Addr} {fd : FuncData} (D : DefAt K mg "rings_of" s_rings_of ["plan", "caller"] f fd) : Prm P w K mg base 4 "rings_of" 2 d_rings_of := by
  refine prm_of D sc_rings_of rfl (fun as μ Q ⟨r, ns, qs, c, e, _⟩ => by rw [e]; rfl) fun cdv A out s H hr hg => ⟨_, _,
(db_cons (ds_setE (i := 2) sc_rings_of.nd rfl (by first | exact Or.inl rfl | exact Or.inr rfl) (dm_lst da_nil))
    (db_cons (ds_for (vs := [3]) PassesOwn.never rfl (di_list (de_call p_part_of (hr.mono (by omega)) hg (by rfl) (da_cons (de_var (pv 0)) (da_cons (de_var (pv 1)) da_nil)))) (dg_name (pg_name (i := 3) sc_rings_of.nd rfl (by first | exact Or.inl rfl | exact Or.inr rfl)) (by decide)) (db_one (ds_expr (de_extendE (de_var (pv 2)) (da_cons (de_call p_rings_from (hr.mono (by omega)) hg (by rfl) (da_cons (de_var (pv 0)) (da_cons (de_var (pv 3)) da_nil))) da_nil)))))
    (db_one (ds_ret (de_frz (de_var (pv 2)))))))
    , fun as μ Q ⟨r, ns, qs, c, e, pn, hc, k⟩ => ?_⟩
  subst e
  have hsl : sizeLine = 16777216 := sizeLine_eq
  walk_at "dl"
  refine fun p hp => ?_
  have hp0 : mset μ p (some (.lst [])) p = some (.lst []) := mset_same
  have x0 : ∀ b, μ b ≠ none → mset μ p (some (.lst [])) b = μ b := fun b hb => mset_ne fun z => hb (by rw [z]; exact hp)
  generalize mset μ p (some (.lst [])) = μ1 at hp0 x0
  refine forD_gen (fun ds μ' => ∃ ys : List Str, ds = ys.map PyData.str ∧ ys.Nodup ∧ (∀ x, x ∈ ys ↔ Lk qs c x) ∧ ∀ b, μ1 b ≠ none → μ' b = μ1 b) (fun C' hC => ?_) (fun ds μ2 ⟨ys, e1, yn, yl0, x2⟩ => ?_)
  · walk_at "dl"
    exact ⟨r, ns, qs, c, rfl, pn, hc, fun ys μ' hs hn hx hk => ⟨_, rfl, hC _ _ ⟨ys, rfl, hn, hx, hk⟩⟩⟩
  · subst e1
    have n8 := pn.po.n8
    have yl : ∀ x ∈ ys, Lk qs c x := fun x h => (yl0 x).mp h
    have yl8 : ys.length ≤ 8 := by
      have := nodup_sub yn fun x hx => (yl x hx).mem pn.po hc
      omega
    refine for_by (μ1 := μ2) (ys.map PyData.str) (fun Z z => z) (fun j δ' μ' => ∃ (rs : List (List (Str × Way))) (y3 : Option AV), δ' = [some (.dat (planD r ns qs)), some (.dat (.str c)), some (.mut p), y3] ∧ rs.length ≤ 1900000 * j ∧ (∀ ps ∈ rs, ∃ a, a ∈ ns ∧ Lk qs c a ∧ Ring qs a ps) ∧ (∀ a ∈ ys.take j, ∀ ps, Ring qs a ps → Least a ps → ps ∈ rs) ∧
      μ' p = some (.lst ((rs.map fun ps => PyData.list (ps.map hopD)).map AV.dat)) ∧ ∀ b, b ≠ p → μ2 b ≠ none → μ' b = μ2 b) ⟨[], _, rfl, by simp, (fun ps h => nomatch h), (fun a h => by simp at h), by rw [x2 p (by rw [hp0]; simp), hp0]; rfl, fun _ _ _ => rfl⟩ (fun j d δ' μ' hd ⟨rs, y3, e1, hl, hrs, hall, hp', x'⟩ => ?_) (fun δ' μ' ⟨rs, y3, e1, hl, hrs, hall, hp', x'⟩ => ?_)
    · subst e1
      rw [List.getElem?_map] at hd
      obtain ⟨y, hy, rfl⟩ := Option.map_eq_some_iff.mp hd
      have hj := (List.getElem?_eq_some_iff.mp hy).1
      have ly := yl y (List.mem_of_getElem? hy)
      walk_at "dl"
      refine ⟨⟨_, hp'⟩, r, ns, qs, y, rfl, pn, ly.mem pn.po hc, fun F rs2 ν hF hr2 hal2 hl2 hF' xν => ?_⟩
      have nFp : F ≠ p := fun z => by rw [z, hp'] at hF; cases hF
      refine ⟨F, rfl, nFp, _, by rw [xν p (by rw [hp']; simp)]; exact hp', _, hF', ?_, rs ++ rs2, by rw [List.length_append]; omega, fun ps h => ?_, fun a ha ps r l => ?_, ?_, fun b h1 h2 => ?_⟩
      · rw [List.length_map, List.length_map, List.length_map, List.length_map]
        have : 1900000 * j ≤ 1900000 * 7 := Nat.mul_le_mul_left _ (by omega)
        omega
      · rcases List.mem_append.mp h with h | h
        · exact hrs ps h
        · exact ⟨y, ly.mem pn.po hc, ly, hr2 ps h⟩
      · rw [List.take_add_one, hy] at ha
        rcases List.mem_append.mp ha with ha | ha
        · exact List.mem_append_left _ (hall a ha ps r l)
        · have : a = y := (by simpa using ha)
          subst this
          exact List.mem_append_right _ (hal2 ps r l)
      · rw [mset_ne nFp.symm, mset_same]
        simp only [List.map_append, List.map_map]
      · have hb := x' b h1 h2
        have nb : b ≠ F := fun z => by rw [z, hF] at hb; exact h2 (by rw [z]; exact hb.symm)
        rw [mset_ne nb, mset_ne h1, xν b (by rw [hb]; exact h2)]
        exact hb
    · subst e1
      rw [List.length_map] at hl
      have : 1900000 * ys.length ≤ 1900000 * 8 := Nat.mul_le_mul_left _ yl8
      refine ⟨_, rfl, p, _, rfl, hp', k rs _ hrs (fun b hb => ?_) (by omega) fun a ps la r l => hall a (by rw [List.length_map, List.take_length]; exact (yl0 a).mpr la) ps r l⟩
      have nb : b ≠ p := fun z => hb (by rw [z]; exact hp)
      have h1 := x0 b hb
      have h2 := x2 b (by rw [h1]; exact hb)
      rw [mset_ne nb, x' b nb (by rw [h2, h1]; exact hb), h2, h1]
end
end K1


set_option maxHeartbeats 4000000
namespace K1
open PySem PySem.Spec PyProof.Rows L2 RZ DL
local macro_rules | `(tactic| walk_at "dl") => `(tactic| simp [and_assoc, mRet, mAnd, mOr, mCall, mCons, mVar, mCls, mNil, mC, oIsi, oIsi2, mNot, startD, mSeq, mIfS, mTOr, mTAnd, mTNot, mTest, mChain, mNext, oA1, oA2, oIB, oII, oII0, mOp, mUn, mAsg, mgName, mgTup, mgCons_c, mgNil_n, zipAs_l, zipAs_t, oSl_l, oSl_t, oSl_s, oSl_r, mPart, mSl, mIf, wipeD, oSign, oSS, oLen, LenD_s, LenD_l, LenD_t, LenD_m, miZ, miS, miT, miL, miE, miR, oEq, oNe, eqD_i, eqD_b, eqD_s, oInT, oIx, ixD_l, ixD_t, ixD_s, ixD_m, ix0, ix1, ix2, ix3, oAbs, oInt, oMax, oMin, mPar, mPar3, mTup, mLst, mLstM, asD, mExpr, itemsD_l, itemsD_t, oNeg, mgSub, mset_same, mIsN, mDrp, mTIsN, oEqW, eqW_n, eqW_b, eqW_i, eqW_s, non_n, non_b, non_i, non_s, non_l, non_t, miR2, mDNew, mDGet, mDPut, mDisp, mPairs, kD_s, kD_i, isStr, isTup, isLst, isBool, DL.isInt, mAppend, mDPop, oNeE, miM, DL.HoldL, mDIn, mDictZip, oRepU, mListZip, oDictP, mCallP, pick, oNotB, mExtend, oSortA, oSortAM, mTupM, oIxT, mgTupC, mCallB, miD, miC, mGh, miMix, Sk.dat, mUpdate, mItems, oDictD, oListM, oListC, oRepL, oSortT, mVals, mDGetT, mDInT, mDPutT, mDGet2T, mLockE, mLockS, mNever, oSumI, oMaxI, mgLstU, oHpop, oHpush, mTru, mStar, mCont, mMinVals, mPop0, mTIsNM, mTIsNE, mRev])
/-! heights, or none: of any picture -/
section
variable {P : Program} {w : World} {K : PySem.W.Frag} {mg : Str → Option Value} {base : Heap}
theorem valA_phi {g : Str → Int} {x : Str} : ∀ {kis : List (Str × Int)}, x ∈ kis.map (·.1) → (∀ p ∈ kis, p.2 = g p.1) → valA (kisD kis) (.inr x) = some (.dat (.int (g x)))
  | k :: kis, h, hg => by
    have e1 := hg k List.mem_cons_self
    unfold kisD
    rw [List.map_cons]
    by_cases e : k.1 = x
    · rw [valA_pos (by rw [e])]
      show some (AV.dat (.int k.2)) = _
      rw [e1, e]
    · rw [valA_neg fun z => e (Sum.inr.inj z)]
      exact valA_phi ((List.mem_cons.mp h).resolve_left fun z => e z.symm) fun p hp => hg p (List.mem_cons_of_mem _ hp)
/-- numbers that fit each way of c's part -/
def FitsP (b : Int) (last : Str → Option Int) (qs : List Way) (c : Str) (Φ : Str → Int) : Prop := ∀ x, Lk qs c x → ∀ q ∈ qs, atB x q = true → leanF b last x q = Φ (thr x q) - Φ x
/-- how far the numbers have come, at a caller's ways: G as they stand -/
structure NumG (ns : List Str) (qs : List Way) (b : Int) (last : Str → Option Int) (c x : Str) (G : Str → Int) (keys : List Str) (most j : Nat) (kis : List (Str × Int)) (ls : List Str) : Prop where
  less : 2 * (8 - kis.length) + ls.length ≤ most
  rc : Reached ns qs c kis
  sub : ∀ y ∈ keys, y ∈ kis.map (·.1)
  lk : ∀ y ∈ ls, y ∈ kis.map (·.1)
  cl : ∀ y ∈ kis.map (·.1), y = x ∨ y ∈ ls ∨ ∀ q ∈ qs, atB y q = true → thr y q ∈ kis.map (·.1) ∧ leanF b last y q = G (thr y q) - G y
  th : ∀ q ∈ (qs.filter (atB x)).take j, thr x q ∈ kis.map (·.1) ∧ leanF b last x q = G (thr x q) - G x
  ph : ∀ p ∈ kis, p.2 = G p.1
  un : ∀ Φ, FitsP b last qs c Φ → ∀ y ∈ kis.map (·.1), G y = Φ y - Φ c
  few : ls.length ≤ kis.length
def d_numbers_fromN : DOs := fun as μ Q => ∃ r ns qs b last c, as = [.dat (planD r ns qs), .dat (picD b (ns.map last)), .dat (.str c)] ∧ PlanNm ns qs ∧ c ∈ ns ∧ (∀ R kis μ' G, μ R = none → Reached ns qs c kis → (∀ x, Lk qs c x → x ∈ kis.map (·.1)) → (∀ p ∈ kis, p.2 = G p.1) → FitsP b last qs c G → (∀ Φ, FitsP b last qs c Φ → ∀ y ∈ kis.map (·.1), G y = Φ y - Φ c) → μ' R = some (.dK (kisD kis)) → (∀ b, μ b ≠ none → μ' b = μ b) → Q (.mut R) μ') ∧
  ((∀ Φ, ¬ FitsP b last qs c Φ) → ∀ μ', (∀ b, μ b ≠ none → μ' b = μ b) → Q (.dat .none) μ')
theorem ok_numbers_fromN (T : Txt K mg) (p_ways_at : Prm P w K mg base 2 "ways_at" 2 d_ways_at) (p_lean_from : Prm P w K mg base 4 "lean_from" 4 d_lean_from) {f : Addr} {fd : FuncData} (D : DefAt K mg "_numbers_from" s_numbers_from ["plan", "picture", "caller"] f fd) : Prm P w K mg base 5 "_numbers_from" 3 d_numbers_fromN := by
  refine prm_of D sc_numbers_from rfl (fun as μ Q ⟨r, ns, qs, b, last, c, e, _⟩ => by rw [e]; rfl) fun cdv A out s H hr hg => ⟨_, _,
(db_cons (ds_setE (i := 3) sc_numbers_from.nd rfl (by first | exact Or.inl rfl | exact Or.inr rfl) (de_disp (dps_cons (de_var (pv 2)) de_int dps_nil)))
    (db_cons (ds_setE (i := 4) sc_numbers_from.nd rfl (by first | exact Or.inl rfl | exact Or.inr rfl) (dm_lst (da_cons (de_var (pv 2)) da_nil)))
    (db_cons (ds_while PassesOwn.never (dt_tru (de_var (pv 4))) (db_cons (ds_setE (i := 5) sc_numbers_from.nd rfl (by first | exact Or.inl rfl | exact Or.inr rfl) (de_pop0 (de_var (pv 4))))
    (db_one (ds_for (vs := [6, 7]) PassesOwn.never rfl (di_list (de_call p_ways_at (hr.mono (by omega)) hg (by rfl) (da_cons (de_var (pv 0)) (da_cons (de_var (pv 5)) da_nil)))) (dg_tup (K := K) (n := 2) rfl rfl (dgs_cons (dg_name (pg_name (i := 6) sc_numbers_from.nd rfl (by first | exact Or.inl rfl | exact Or.inr rfl)) (by decide)) (dgs_cons (dg_name (pg_name (i := 7) sc_numbers_from.nd rfl (by first | exact Or.inl rfl | exact Or.inr rfl)) (by decide)) dgs_nil))) (db_cons (ds_setE (i := 8) sc_numbers_from.nd rfl (by first | exact Or.inl rfl | exact Or.inr rfl) (de_op op_add so_II0 (de_dget (hu_of hr) (de_var (pv 3)) (de_var (pv 5)) (fun _ _ => rfl)) (de_call p_lean_from (hr.mono (by omega)) hg (by rfl) (da_cons (de_var (pv 0)) (da_cons (de_var (pv 1)) (da_cons (de_var (pv 5)) (da_cons (de_var (pv 6)) da_nil)))))))
    (db_one (ds_if (dt_dnotin (hu_of hr) (de_var (pv 7)) (de_var (pv 3))) (db_cons (ds_dput (hu_of hr) (de_var (pv 3)) (de_var (pv 7)) (de_var (pv 8)))
    (db_one (ds_expr (de_appendE (de_var (pv 4)) (da_cons (de_var (pv 7)) da_nil))))) (db_one (ds_if (dt_cmp op_ne so_ne (de_dget (hu_of hr) (de_var (pv 3)) (de_var (pv 7)) (fun _ _ => rfl)) (de_var (pv 8))) (db_one (ds_ret de_non)) db_nil)))))))))
    (db_one (ds_ret (de_var (pv 3)))))))
    , fun as μ Q ⟨r, ns, qs, b, last, c, e, pn, hc, k, kN⟩ => ?_⟩
  subst e
  have hsl : sizeLine = 16777216 := sizeLine_eq
  walk_at "dl"
  refine fun R hR => ⟨[(.inr c, .dat (.int 0))], rfl, by show 1 ≤ 15; omega, by omega, fun A hA => ?_⟩
  rw [mset_mset] at hA
  rw [mset_mset]
  have nAR : A ≠ R := fun z => by rw [z, mset_same] at hA; cases hA
  rw [mset_ne nAR] at hA
  have n8 := pn.po.n8
  have k8 : ∀ {kis}, Reached ns qs c kis → kis.length ≤ 8 := fun {kis} h => by
    have := nodup_sub h.nd fun x hx => (h.lk x hx).mem pn.po hc
    rw [List.length_map] at this
    omega
  let St : Nat → Dl → Mu → Prop := fun m δ' μ' => ∃ (G : Str → Int) (kis : List (Str × Int)) (ls : List Str) (y5 y6 y7 y8 : Option AV), δ' = [some (.dat (planD r ns qs)), some (.dat (picD b (ns.map last))), some (.dat (.str c)), some (.mut R), some (.mut A), y5, y6, y7, y8] ∧ m = 2 * (8 - kis.length) + ls.length ∧
    Reached ns qs c kis ∧ c ∈ kis.map (·.1) ∧ (∀ x ∈ ls, x ∈ kis.map (·.1)) ∧ (∀ x ∈ kis.map (·.1), x ∈ ls ∨ ∀ q ∈ qs, atB x q = true → thr x q ∈ kis.map (·.1) ∧ leanF b last x q = G (thr x q) - G x) ∧ (∀ p ∈ kis, p.2 = G p.1) ∧ (∀ Φ, FitsP b last qs c Φ → ∀ y ∈ kis.map (·.1), G y = Φ y - Φ c) ∧ ls.length ≤ kis.length ∧
    μ' R = some (.dK (kisD kis)) ∧ μ' A = some (.lst ((ls.map PyData.str).map AV.dat)) ∧ ∀ b, μ b ≠ none → μ' b = μ b
  refine ⟨St, ⟨_, fun _ => 0, [(c, 0)], [c], _, _, _, _, rfl, rfl, ⟨by simp, fun x hx => by have : x = c := (by simpa using hx); rw [this]; exact .here⟩, by simp, by simp, fun x hx => .inl (by simpa using hx), fun p hp => by rw [List.mem_singleton.mp hp], fun Φ _ y hy => by have : y = c := (by simpa using hy); rw [this]; show (0 : Int) = _; omega, by simp, by rw [mset_ne nAR.symm, mset_same]; rfl, by rw [mset_same]; rfl, fun b hb => by rw [mset_ne fun z => hb (by rw [z]; exact hA), mset_ne fun z => hb (by rw [z]; exact hR)]⟩, ?_⟩
  rintro m δ' μ' ⟨G, kis, ls, y5, y6, y7, y8, e1, em, rc, c0, lk, cl, ph, un, hl, hR', hA', x'⟩
  subst e1
  have hk8 := k8 rc
  walk_at "dl"
  refine ⟨_, hA', ?_⟩
  rcases List.eq_nil_or_concat ls with rfl | ⟨ls0, x, rfl⟩
  · rw [if_pos (by rfl)]
    have all : ∀ x, Lk qs c x → x ∈ kis.map (·.1) := fun x hx => by
      induction hx with
      | here => exact c0
      | on h hq hx ih => exact ((cl _ ih).resolve_left (fun z => nomatch z) _ hq hx).1
    exact k R kis μ' G hR rc all ph (fun x hx q hq hq2 => ((cl x (all x hx)).resolve_left (fun z => nomatch z) q hq hq2).2) un hR' x'
  · rw [if_neg (by simp)]
    rw [List.concat_eq_append] at *
    have xk : x ∈ kis.map (·.1) := lk x (by simp)
    have xin := (rc.lk x xk).mem pn.po hc
    rw [List.length_append, List.length_singleton] at hl em
    refine ⟨fun δ2 μ2 => ∃ m', m' < m ∧ St m' δ2 μ2, fun _ _ h => h, (ls0.map PyData.str).map AV.dat, .dat (.str x), by rw [hA']; simp, ?_⟩
    have A2 : mset μ' A (some (.lst ((ls0.map PyData.str).map AV.dat))) A = some (.lst ((ls0.map PyData.str).map AV.dat)) := mset_same
    have R2 : mset μ' A (some (.lst ((ls0.map PyData.str).map AV.dat))) R = some (.dK (kisD kis)) := by rw [mset_ne nAR.symm]; exact hR'
    have x2 : ∀ b, μ b ≠ none → mset μ' A (some (.lst ((ls0.map PyData.str).map AV.dat))) b = μ b := fun b hb => by rw [mset_ne fun z => hb (by rw [z]; exact hA)]; exact x' b hb
    generalize mset μ' A (some (.lst ((ls0.map PyData.str).map AV.dat))) = μ2 at A2 R2 x2
    refine for_by (μ1 := μ2) ((qs.filter (atB x)).map (legD x)) (fun Z z => by walk_at "dl"; exact ⟨r, ns, qs, x, rfl, pn, xin, _, rfl, z⟩) (fun j δ2 μ4 => ∃ (G2 : Str → Int) (kis2 : List (Str × Int)) (ls2 : List Str) (y6 y7 y8 : Option AV), δ2 = [some (.dat (planD r ns qs)), some (.dat (picD b (ns.map last))), some (.dat (.str c)), some (.mut R), some (.mut A), some (.dat (.str x)), y6, y7, y8] ∧
NumG ns qs b last c x G2 (kis.map (·.1)) (2 * (8 - kis.length) + ls0.length) j kis2 ls2 ∧ μ4 R = some (.dK (kisD kis2)) ∧ μ4 A = some (.lst ((ls2.map PyData.str).map AV.dat)) ∧ ∀ b, μ b ≠ none → μ4 b = μ b)
        ⟨G, kis, ls0, _, _, _, rfl, ⟨Nat.le_refl _, rc, fun _ h => h, fun y hy => lk y (by simp [hy]), fun y hy => (by
          rcases cl y hy with h | h
          · rcases List.mem_append.mp h with h | h
            · exact .inr (.inl h)
            · exact .inl (List.mem_singleton.mp h)
          · exact .inr (.inr h)), by simp, ph, un, by omega⟩, R2, A2, x2⟩ (fun j d δ2 μ4 hd ⟨G2, kis2, ls2, y6, y7, y8, e1, N, R4, A4, x4⟩ => ?_) (fun δ2 μ4 ⟨G2, kis2, ls2, y6, y7, y8, e1, N, R4, A4, x4⟩ => ?_)
    · subst e1
      rw [List.getElem?_map] at hd
      obtain ⟨q, hq, rfl⟩ := Option.map_eq_some_iff.mp hd
      have qm := List.mem_filter.mp (List.mem_of_getElem? hq)
      obtain ⟨hm, rc2, sub, lk2, cl2, th, ph2, un2, hl2⟩ := N
      have hk2 := k8 rc2
      unfold legD
      walk_at "dl"
      refine ⟨_, R4, _, valA_phi (g := G2) (sub x xk) ph2, r, ns, qs, b, last, x, q, rfl, pn, qm.1, _, rfl, _, rfl, _, R4, ?_⟩
      have hv := valA_kis (thr x q) kis2
      have xk2 := sub x xk
      by_cases hk : thr x q ∈ kis2.map (·.1)
      · have vt := valA_phi (g := G2) hk ph2
        rw [if_neg (by rw [vt]; exact fun z => nomatch z)]
        refine ⟨_, R4, _, vt, _, rfl, ?_⟩
        by_cases ev : G2 (thr x q) = G2 x + leanF b last x q
        · refine .inr ⟨by rw [eqD_i]; congr 1; exact decide_eq_true ev, G2, kis2, ls2, ⟨hm, rc2, sub, lk2, cl2, fun z hz => ?_, ph2, un2, hl2⟩, R4, by rw [A4, List.map_map], x4⟩
          rw [List.take_add_one, hq] at hz
          rcases List.mem_append.mp hz with hz | hz
          · exact th z hz
          · have : z = q := (by simpa using hz)
            rw [this]
            exact ⟨hk, by omega⟩
        · refine .inl ⟨by rw [eqD_i]; congr 1; exact decide_eq_false ev, kN (fun Φ fit => ev ?_) μ4 x4⟩
          have h1 := un2 Φ fit _ hk
          have h2 := un2 Φ fit x xk2
          have h3 := fit x (rc.lk x xk) q qm.1 qm.2
          omega
      · rw [if_pos (by cases e : valA (kisD kis2) (.inr (thr x q)) with | none => rfl | some v => rw [e, decide_eq_false hk] at hv; cases hv)]
        have ek : putA (kisD kis2) (.inr (thr x q)) (.dat (.int (G2 x + leanF b last x q))) = kisD (kis2 ++ [(thr x q, G2 x + leanF b last x q)]) := by
          rw [putA_new fun z => hk (by
            obtain ⟨p, hp, e⟩ := List.mem_map.mp z
            obtain ⟨q', hq', rfl⟩ := List.mem_map.mp hp
            exact List.mem_map.mpr ⟨q', hq', Sum.inr.inj e⟩)]
          unfold kisD
          rw [List.map_append]
          rfl
        obtain ⟨v, ev⟩ : ∃ v, v = G2 x + leanF b last x q := ⟨_, rfl⟩
        rw [← ev] at ek
        rw [← ev]
        obtain ⟨z, ez⟩ : ∃ z, z = thr x q := ⟨_, rfl⟩
        rw [← ez] at ek hk hv
        rw [← ez]
        have lx : Lk qs c z := by rw [ez]; exact .on (rc.lk x xk) qm.1 qm.2
        obtain ⟨G3, eG⟩ : ∃ G3 : Str → Int, G3 = fun y => if y = z then v else G2 y := ⟨_, rfl⟩
        have g0 : ∀ y ∈ kis2.map (·.1), G3 y = G2 y := fun y hy => by rw [eG]; simp only; rw [if_neg fun e => hk (by rw [← e]; exact hy)]
        have g1 : G3 z = v := by rw [eG]; exact if_pos rfl
        have rc3 : Reached ns qs c (kis2 ++ [(z, v)]) := ⟨by
          rw [List.map_append]
          exact List.nodup_append.mpr ⟨rc2.nd, by simp, fun a ha b hb => by
            have : b = z := (by simpa using hb)
            rw [this]
            exact fun e => hk (by rw [← e]; exact ha)⟩, fun y hy => by
          rw [List.map_append] at hy
          rcases List.mem_append.mp hy with hy | hy
          · exact rc2.lk y hy
          · have : y = z := (by simpa using hy)
            rw [this]; exact lx⟩
        have hk3 := k8 rc3
        have up : ∀ y ∈ kis2.map (·.1), y ∈ (kis2 ++ [(z, v)]).map (·.1) := fun y hy => by rw [List.map_append]; exact List.mem_append_left _ hy
        have it : z ∈ (kis2 ++ [(z, v)]).map (·.1) := by rw [List.map_append]; exact List.mem_append_right _ (by simp)
        rw [List.length_append, List.length_singleton] at hk3
        refine ⟨_, R4, by unfold kisD; rw [List.length_map]; omega, ⟨_, by rw [mset_ne nAR]; exact A4⟩, _, by rw [mset_ne nAR]; exact A4, by rw [List.length_map, List.length_map]; omega, G3, kis2 ++ [(z, v)], ls2 ++ [z], ⟨?_, rc3, fun y hy => up y (sub y hy), fun y hy => ?_, fun y hy => ?_, fun p hp => ?_, fun p hp => ?_, fun Φ fit y hy => ?_, ?_⟩, ?_, ?_, fun b hb => ?_⟩
        · rw [List.length_append, List.length_append, List.length_singleton, List.length_singleton]; omega
        · rcases List.mem_append.mp hy with hy | hy
          · exact up y (lk2 y hy)
          · rw [List.mem_singleton.mp hy]; exact it
        · rw [List.map_append] at hy
          rcases List.mem_append.mp hy with hy | hy
          · rcases cl2 y hy with h | h | h
            · exact .inl h
            · exact .inr (.inl (List.mem_append_left _ h))
            · refine .inr (.inr fun q' h1 h2 => ?_)
              obtain ⟨a1, a2⟩ := h q' h1 h2
              exact ⟨up _ a1, by rw [g0 _ a1, g0 y hy]; exact a2⟩
          · have : y = z := (by simpa using hy)
            rw [this]
            exact .inr (.inl (List.mem_append_right _ (List.mem_singleton.mpr rfl)))
        · rw [List.take_add_one, hq] at hp
          rcases List.mem_append.mp hp with hp | hp
          · obtain ⟨a1, a2⟩ := th p hp
            exact ⟨up _ a1, by rw [g0 _ a1, g0 x xk2]; exact a2⟩
          · have : p = q := (by simpa using hp)
            rw [this, ← ez]
            exact ⟨it, by rw [g1, g0 x xk2]; omega⟩
        · rcases List.mem_append.mp hp with hp | hp
          · rw [g0 _ (List.mem_map.mpr ⟨p, hp, rfl⟩)]; exact ph2 p hp
          · rw [List.mem_singleton.mp hp, g1]
        · rw [List.map_append] at hy
          rcases List.mem_append.mp hy with hy | hy
          · rw [g0 y hy]; exact un2 Φ fit y hy
          · have : y = z := (by simpa using hy)
            rw [this, g1, ev, ez, fit x (rc.lk x xk) q qm.1 qm.2, un2 Φ fit x xk2]
            omega
        · rw [List.length_append, List.length_append, List.length_singleton, List.length_singleton]; omega
        · rw [mset_ne nAR.symm, mset_same, ek]
        · simp
        · rw [mset_ne fun z => hb (by rw [z]; exact hA), mset_ne fun z => hb (by rw [z]; exact hR)]
          exact x4 b hb
    · subst e1
      obtain ⟨hm, rc2, sub, lk2, cl2, th, ph2, un2, hl2⟩ := N
      rw [List.length_map, List.take_length] at th
      refine ⟨_, ?_, G2, kis2, ls2, _, _, _, _, rfl, rfl, rc2, sub c c0, lk2, fun y hy => ?_, ph2, un2, hl2, R4, A4, x4⟩
      · omega
      · rcases cl2 y hy with h | h | h
        · exact .inr fun q h1 h2 => by rw [h] at h2 ⊢; exact th q (List.mem_filter.mpr ⟨h1, h2⟩)
        · exact .inl h
        · exact .inr h
def highD (Φ : Str → Int) (m : Int) (y : Str) : PyData := .tuple [.str y, .int (Φ y - m)]
/-- the callers of a part, the least of their numbers -/
structure PartOf (qs : List Way) (c : Str) (Φ : Str → Int) (ys : List Str) (m : Int) : Prop where
  srt : sortedS ys = true
  nd : ys.Nodup
  lk : ∀ x, x ∈ ys ↔ Lk qs c x
  least : m ∈ ys.map Φ
  le : ∀ j ∈ ys.map Φ, m ≤ j
def d_heightsN : DOs := fun as μ Q => ∃ r ns qs b last c, as = [.dat (planD r ns qs), .dat (picD b (ns.map last)), .dat (.str c)] ∧ PlanNm ns qs ∧ c ∈ ns ∧ (∀ Φ ys m μ', FitsP b last qs c Φ → PartOf qs c Φ ys m → (∀ b, μ b ≠ none → μ' b = μ b) → Q (.dat (.list (ys.map (highD Φ m)))) μ') ∧ ((∀ Φ, ¬ FitsP b last qs c Φ) → ∀ μ', (∀ b, μ b ≠ none → μ' b = μ b) → Q (.dat .none) μ')
/-- texts in order -/
theorem sort_strs (l : List Str) : ∃ ys : List Str, ys.Perm l ∧ sortedS ys = true := by
  refine ⟨l.mergeSort fun a b => decide (a.cps.toList ≤ b.cps.toList), List.mergeSort_perm _ _, le_sortedS ?_⟩
  refine (List.pairwise_mergeSort (le := fun a b : Str => decide (a.cps.toList ≤ b.cps.toList)) (fun a b c h1 h2 => ?_) (fun a b => ?_) l).imp fun {a b} h => (of_decide_eq_true h : a.cps.toList ≤ b.cps.toList)
  · exact decide_eq_true (List.le_trans (of_decide_eq_true h1) (of_decide_eq_true h2))
  · rcases List.le_total a.cps.toList b.cps.toList with h | h
    · simp [h]
    · simp [h]
theorem ok_heightsN (T : Txt K mg) (p_check_caller : Prm P w K mg base 1 "check_caller" 2 d_check_caller) (p_numbers_from : Prm P w K mg base 5 "_numbers_from" 3 d_numbers_fromN) {f : Addr} {fd : FuncData} (D : DefAt K mg "heights" s_heights ["plan", "picture", "caller"] f fd) : Prm P w K mg base 6 "heights" 3 d_heightsN := by
  refine prm_of D sc_heights rfl (fun as μ Q ⟨r, ns, qs, b, last, c, e, _⟩ => by rw [e]; rfl) fun cdv A out s H hr hg => ⟨_, _,
(db_cons (ds_expr (de_call p_check_caller (hr.mono (by omega)) hg (by rfl) (da_cons (de_var (pv 0)) (da_cons (de_var (pv 2)) da_nil))))
    (db_cons (ds_setE (i := 3) sc_heights.nd rfl (by first | exact Or.inl rfl | exact Or.inr rfl) (de_call p_numbers_from (hr.mono (by omega)) hg (by rfl) (da_cons (de_var (pv 0)) (da_cons (de_var (pv 1)) (da_cons (de_var (pv 2)) da_nil)))))
    (db_cons (ds_if (dt_isNE (de_var (pv 3))) (db_one (ds_ret de_non)) db_nil)
    (db_cons (ds_setE (i := 4) sc_heights.nd rfl (by first | exact Or.inl rfl | exact Or.inr rfl) (de_minVals rfl (by rfl) T.n_min (de_var (pv 3))))
    (db_one (ds_ret (de_lc (own := [("here", 5)]) rfl sc_heights.nd (di_list (de_callB (call_sortedD rfl) (so_A1 so_sortD) (by rfl) T.n_sorted (by decide +kernel) (da_cons (de_var (pv 3)) da_nil))) (blkOk_by (N := N_heights) (sc := defScope s_heights) (by decide +kernel)) (fun _ _ _ _ _ => (dg_name (pg_name (i := 5) sc_heights.nd rfl (by first | exact Or.inl rfl | exact Or.inr rfl)) (by decide))) (fun _ _ _ _ _ => dts_nil) (fun _ _ _ _ _ => (de_tup (da_cons (de_var (pv 5)) (da_cons (de_op op_sub so_II0 (de_dget (hu_of hr) (de_var (pv 3)) (de_var (pv 5)) (fun _ _ => rfl)) (de_var (pv 4))) da_nil)))))))))))
    , fun as μ Q ⟨r, ns, qs, b, last, c, e, pn, hc, k, kN⟩ => ?_⟩
  subst e
  have hsl : sizeLine = 16777216 := sizeLine_eq
  walk_at "dl"
  refine ⟨r, ns, qs, c, rfl, hc, pn.nok, r, ns, qs, b, last, c, rfl, pn, hc, fun R kis μ' Φ hR rc all ph fit un hR' x' => ?_, fun no μ' x' => ?_⟩
  rotate_left
  · exact .inl ⟨_, rfl, kN no μ' x'⟩
  have kn : ∀ {kis : List (Str × Int)} {x : Str}, x ∈ kis.map (·.1) → ∃ i, (x, i) ∈ kis := fun {kis x} h => by
    obtain ⟨p, hp, rfl⟩ := List.mem_map.mp h
    exact ⟨p.2, hp⟩
  have kl : kis.length ≤ 8 := by
    have := nodup_sub rc.nd fun x hx => (rc.lk x hx).mem pn.po hc
    have := pn.po.n8
    rw [List.length_map] at *
    omega
  refine .inr ⟨⟨R, rfl⟩, R, rfl, kis.map fun p => (Sum.inr p.1, p.2), by rw [hR']; unfold kisD kisA; rw [List.map_map]; rfl, fun z => ?_, fun v kk hv hmin => ?_⟩
  · have := all c .here
    rw [List.map_eq_nil_iff.mp z] at this
    cases this
  obtain ⟨ys, yp, ysrt⟩ := sort_strs (kis.map (·.1))
  have yl : ys.length ≤ 8 := by rw [yp.length_eq, List.length_map]; exact kl
  have yn : ys.Nodup := yp.nodup_iff.mpr rc.nd
  have yk : ∀ x, x ∈ ys ↔ Lk qs c x := fun x => ⟨fun h => rc.lk x (yp.mem_iff.mp h), fun h => yp.mem_iff.mpr (all x h)⟩
  have po : PartOf qs c Φ ys v := by
    refine ⟨ysrt, yn, yk, ?_, fun j hj => ?_⟩
    · obtain ⟨p, hp, e⟩ := List.mem_map.mp hv
      cases e
      exact List.mem_map.mpr ⟨p.1, yp.mem_iff.mpr (List.mem_map.mpr ⟨p, hp, rfl⟩), (ph p hp).symm⟩
    · obtain ⟨y, hy, rfl⟩ := List.mem_map.mp hj
      obtain ⟨i, hi⟩ := kn (yp.mem_iff.mp hy)
      have h1 := hmin i (.inr y) (List.mem_map.mpr ⟨(y, i), hi, rfl⟩)
      have h2 : i = Φ y := ph _ hi
      omega
  refine lc_T (μ1 := μ') ys PyData.str (fun _ => true) (highD Φ v) (fun Z z => ?_) (by omega) (fun x hx ν R1 R0 fr r1 r0 => ?_) ?_
  · walk_at "dl"
    refine ⟨R, kisD kis, kis.map (·.1), rfl, hR', by unfold kisD; rw [List.map_map, List.map_map]; rfl, by rw [List.length_map]; omega, fun zs pm hs => ?_⟩
    have e : zs = ys := sorted_same hs ysrt (pm.nodup_iff.mpr rc.nd) yn fun x => ⟨fun h => yp.mem_iff.mpr (pm.mem_iff.mp h), fun h => pm.mem_iff.mpr (yp.mem_iff.mp h)⟩
    subst e
    exact ⟨_, rfl, z⟩
  · walk_at "dl"
    refine ⟨_, by rw [fr R (by rw [hR']; simp)]; exact hR', _, valA_phi (g := Φ) (yp.mem_iff.mp hx) ph, _, rfl, ?_⟩
    exact ⟨by omega, r1 rfl⟩
  · rw [List.filter_eq_self.mpr fun _ _ => rfl]
    exact k Φ ys v μ' fit po x'
end
end K1


set_option maxHeartbeats 4000000
namespace K1
open PySem PySem.Spec PyProof.Rows L2 RZ DL
local macro_rules | `(tactic| walk_at "dl") => `(tactic| simp [and_assoc, mRet, mAnd, mOr, mCall, mCons, mVar, mCls, mNil, mC, oIsi, oIsi2, mNot, startD, mSeq, mIfS, mTOr, mTAnd, mTNot, mTest, mChain, mNext, oA1, oA2, oIB, oII, oII0, mOp, mUn, mAsg, mgName, mgTup, mgCons_c, mgNil_n, zipAs_l, zipAs_t, oSl_l, oSl_t, oSl_s, oSl_r, mPart, mSl, mIf, wipeD, oSign, oSS, oLen, LenD_s, LenD_l, LenD_t, LenD_m, miZ, miS, miT, miL, miE, miR, oEq, oNe, eqD_i, eqD_b, eqD_s, oInT, oIx, ixD_l, ixD_t, ixD_s, ixD_m, ix0, ix1, ix2, ix3, oAbs, oInt, oMax, oMin, mPar, mPar3, mTup, mLst, mLstM, asD, mExpr, itemsD_l, itemsD_t, oNeg, mgSub, mset_same, mIsN, mDrp, mTIsN, oEqW, eqW_n, eqW_b, eqW_i, eqW_s, non_n, non_b, non_i, non_s, non_l, non_t, miR2, mDNew, mDGet, mDPut, mDisp, mPairs, kD_s, kD_i, isStr, isTup, isLst, isBool, DL.isInt, mAppend, mDPop, oNeE, miM, DL.HoldL, mDIn, mDictZip, oRepU, mListZip, oDictP, mCallP, pick, oNotB, mExtend, oSortA, oSortAM, mTupM, oIxT, mgTupC, mCallB, miD, miC, mGh, miMix, Sk.dat, mUpdate, mItems, oDictD, oListM, oListC, oRepL, oSortT, mVals, mDGetT, mDInT, mDPutT, mDGet2T, mLockE, mLockS, mNever, oSumI, oMaxI, mgLstU, oHpop, oHpush, mTru, mStar, mCont, mMinVals, mPop0, mTIsNM, mTIsNE, mRev])
/-! a ring that winds, or none: of any picture -/
section
variable {P : Program} {w : World} {K : PySem.W.Frag} {mg : Str → Option Value} {base : Heap}
theorem ring_few {ns : List Str} {qs : List Way} (po : PlanOk ns qs) {a : Str} {ps : List (Str × Way)} (ha : a ∈ ns) (h : Ring qs a ps) : ps.length ≤ 8 := by
  have g := h.gone.all po ha
  have := nodup_sub h.cs fun y hy => by
    obtain ⟨p, hp, rfl⟩ := List.mem_map.mp hy
    exact (g.1 p hp).1
  have := po.n8
  rw [List.length_map] at *
  omega
def d_windingN : DOs := fun as μ Q => ∃ r ns qs b last c, as = [.dat (planD r ns qs), .dat (picD b (ns.map last)), .dat (.str c)] ∧ PlanNm ns qs ∧ c ∈ ns ∧ (∀ a ps μ', a ∈ ns → Lk qs c a → Ring qs a ps → 0 < windI b last ps → (∀ b, μ b ≠ none → μ' b = μ b) → Q (.dat (.list (ps.map hopD))) μ') ∧
  ((∀ a ps, Lk qs c a → Ring qs a ps → Least a ps → windI b last ps ≤ 0) → ∀ μ', (∀ b, μ b ≠ none → μ' b = μ b) → Q (.dat .none) μ')
theorem ok_windingN (T : Txt K mg) (p_check_caller : Prm P w K mg base 1 "check_caller" 2 d_check_caller) (p_rings_of : Prm P w K mg base 4 "rings_of" 2 d_rings_of) (p_wind : Prm P w K mg base 5 "wind" 3 d_wind) {f : Addr} {fd : FuncData} (D : DefAt K mg "winding" s_winding ["plan", "picture", "caller"] f fd) : Prm P w K mg base 6 "winding" 3 d_windingN := by
  refine prm_of D sc_winding rfl (fun as μ Q ⟨r, ns, qs, b, last, c, e, _⟩ => by rw [e]; rfl) fun cdv A out s H hr hg => ⟨_, _,
(db_cons (ds_expr (de_call p_check_caller (hr.mono (by omega)) hg (by rfl) (da_cons (de_var (pv 0)) (da_cons (de_var (pv 2)) da_nil))))
    (db_cons (ds_for (vs := [3]) PassesOwn.never rfl (di_list (de_call p_rings_of (hr.mono (by omega)) hg (by rfl) (da_cons (de_var (pv 0)) (da_cons (de_var (pv 2)) da_nil)))) (dg_name (pg_name (i := 3) sc_winding.nd rfl (by first | exact Or.inl rfl | exact Or.inr rfl)) (by decide)) (db_one (ds_if (dt_cmp op_gt so_IB (de_call p_wind (hr.mono (by omega)) hg (by rfl) (da_cons (de_var (pv 0)) (da_cons (de_var (pv 1)) (da_cons (de_var (pv 3)) da_nil)))) de_int) (db_one (ds_ret (de_var (pv 3)))) db_nil)))
    (db_one (ds_ret de_non))))
    , fun as μ Q ⟨r, ns, qs, b, last, c, e, pn, hc, k, kN⟩ => ?_⟩
  subst e
  have hsl : sizeLine = 16777216 := sizeLine_eq
  walk_at "dl"
  refine ⟨r, ns, qs, c, rfl, hc, pn.nok, ?_⟩
  refine forD_gen (fun ds μ' => ∃ rs : List (List (Str × Way)), ds = rs.map (fun ps => PyData.list (ps.map hopD)) ∧ (∀ ps ∈ rs, ∃ a, a ∈ ns ∧ Lk qs c a ∧ Ring qs a ps) ∧ (∀ a ps, Lk qs c a → Ring qs a ps → Least a ps → ps ∈ rs) ∧ ∀ b, μ b ≠ none → μ' b = μ b) (fun C' hC => ?_) (fun ds μ2 ⟨rs, e1, hrs, hall, x2⟩ => ?_)
  · walk_at "dl"
    exact ⟨r, ns, qs, c, rfl, pn, hc, fun rs μ' h1 h2 h3 h4 => ⟨_, rfl, hC _ _ ⟨rs, rfl, h1, h4, h2⟩⟩⟩
  · subst e1
    refine for_by (μ1 := μ2) (rs.map fun ps => PyData.list (ps.map hopD)) (fun Z z => z) (fun j δ' μ' => μ' = μ2 ∧ (∀ ps ∈ rs.take j, windI b last ps ≤ 0) ∧ ∃ y3, δ' = [some (.dat (planD r ns qs)), some (.dat (picD b (ns.map last))), some (.dat (.str c)), y3]) ⟨rfl, (fun ps h => by simp at h), _, rfl⟩ (fun j d δ' μ' hd ⟨e1, hw, y3, e2⟩ => ?_) (fun δ' μ' ⟨e1, hw, y3, e2⟩ => ?_)
    · subst e1 e2
      rw [List.getElem?_map] at hd
      obtain ⟨ps, hps, rfl⟩ := Option.map_eq_some_iff.mp hd
      obtain ⟨a, ha, la, hr⟩ := hrs ps (List.mem_of_getElem? hps)
      have g := hr.gone.all pn.po ha
      have := ring_few pn.po ha hr
      walk_at "dl"
      refine ⟨r, ns, qs, b, last, ps, rfl, pn, by omega, fun p hp => (g.1 p hp).2.1, ?_⟩
      refine ⟨_, rfl, ?_⟩
      by_cases h : 0 < windI b last ps
      · rw [if_pos h]
        exact k a ps _ ha la hr h x2
      · rw [if_neg h]
        refine ⟨rfl, fun p hp => ?_⟩
        rw [List.take_add_one, hps] at hp
        rcases List.mem_append.mp hp with hp | hp
        · exact hw p hp
        · have : p = ps := (by simpa using hp)
          rw [this]
          omega
    · subst e1 e2
      rw [List.length_map, List.take_length] at hw
      walk_at "dl"
      exact kN (fun a ps h1 h2 h3 => hw ps (hall a ps h1 h2 h3)) _ x2
end
end K1


set_option maxHeartbeats 4000000
namespace K1
open PySem PySem.Spec PyProof.Rows L2 RZ DL
local macro_rules | `(tactic| walk_at "dl") => `(tactic| simp [and_assoc, mRet, mAnd, mOr, mCall, mCons, mVar, mCls, mNil, mC, oIsi, oIsi2, mNot, startD, mSeq, mIfS, mTOr, mTAnd, mTNot, mTest, mChain, mNext, oA1, oA2, oIB, oII, oII0, mOp, mUn, mAsg, mgName, mgTup, mgCons_c, mgNil_n, zipAs_l, zipAs_t, oSl_l, oSl_t, oSl_s, oSl_r, mPart, mSl, mIf, wipeD, oSign, oSS, oLen, LenD_s, LenD_l, LenD_t, LenD_m, miZ, miS, miT, miL, miE, miR, oEq, oNe, eqD_i, eqD_b, eqD_s, oInT, oIx, ixD_l, ixD_t, ixD_s, ixD_m, ix0, ix1, ix2, ix3, oAbs, oInt, oMax, oMin, mPar, mPar3, mTup, mLst, mLstM, asD, mExpr, itemsD_l, itemsD_t, oNeg, mgSub, mset_same, mIsN, mDrp, mTIsN, oEqW, eqW_n, eqW_b, eqW_i, eqW_s, non_n, non_b, non_i, non_s, non_l, non_t, miR2, mDNew, mDGet, mDPut, mDisp, mPairs, kD_s, kD_i, isStr, isTup, isLst, isBool, DL.isInt, mAppend, mDPop, oNeE, miM, DL.HoldL, mDIn, mDictZip, oRepU, mListZip, oDictP, mCallP, pick, oNotB, mExtend, oSortA, oSortAM, mTupM, oIxT, mgTupC, mCallB, miD, miC, mGh, miMix, Sk.dat, mUpdate, mItems, oDictD, oListM, oListC, oRepL, oSortT, mVals, mDGetT, mDInT, mDPutT, mDGet2T, mLockE, mLockS, mNever, oSumI, oMaxI, mgLstU, oHpop, oHpush, mTru, mStar, mCont, mMinVals, mPop0, mTIsNM, mTIsNE, mRev])
/-! plans that are one ring -/
section
variable {qs : List Way} {m : Nat} {n : Nat → Str} {W : Nat → Way}
/-- callers n 0 to n (m - 1), the way W k between n k and the next one, no other way -/
structure RingP (qs : List Way) (m : Nat) (n : Nat → Str) (W : Nat → Way) : Prop where
  m3 : 3 ≤ m
  inj : ∀ i j, i < m → j < m → n i = n j → i = j
  mem : ∀ q, q ∈ qs ↔ ∃ k, k < m ∧ q = W k
  at1 : ∀ k, k < m → atB (n k) (W k) = true ∧ thr (n k) (W k) = n ((k + 1) % m)
  at2 : ∀ k, k < m → atB (n ((k + 1) % m)) (W k) = true ∧ thr (n ((k + 1) % m)) (W k) = n k
  only : ∀ k x, k < m → atB x (W k) = true → x = n k ∨ x = n ((k + 1) % m)
def backN (m : Nat) (n : Nat → Str) (i : Nat) : Str := n ((m - i) % m)
def backW (m : Nat) (W : Nat → Way) (i : Nat) : Way := W (m - 1 - i)
theorem mod_lt' (h : 3 ≤ m) (i : Nat) : i % m < m := Nat.mod_lt _ (by omega)
theorem mod_next (h : 3 ≤ m) {i : Nat} (hi : i < m) : (i + 1) % m = if i + 1 = m then 0 else i + 1 := by
  split
  · rename_i e; rw [e, Nat.mod_self]
  · exact Nat.mod_eq_of_lt (by omega)
theorem mod_back (h : 3 ≤ m) {i : Nat} (hi : i < m) : (m - i) % m = if i = 0 then 0 else m - i := by
  split
  · rename_i e; rw [e, Nat.sub_zero, Nat.mod_self]
  · exact Nat.mod_eq_of_lt (by omega)
theorem RingP.back (R : RingP qs m n W) : RingP qs m (backN m n) (backW m W) := by
  have m3 := R.m3
  have e1 : ∀ k, k < m → backN m n ((k + 1) % m) = n (m - 1 - k) := fun k hk => by
    unfold backN
    rw [mod_back m3 (mod_lt' m3 _), mod_next m3 hk]
    congr 1
    split <;> split <;> omega
  have e2 : ∀ k, k < m → backN m n k = n ((m - 1 - k + 1) % m) := fun k hk => by
    unfold backN
    rw [show m - 1 - k + 1 = m - k by omega]
  refine ⟨m3, fun i j hi hj e => ?_, fun q => ?_, fun k hk => ?_, fun k hk => ?_, fun k x hk hx => ?_⟩
  · have := R.inj _ _ (mod_lt' m3 _) (mod_lt' m3 _) e
    rw [mod_back m3 hi, mod_back m3 hj] at this
    split at this <;> split at this <;> omega
  · rw [R.mem q]
    constructor
    · rintro ⟨k, hk, rfl⟩
      exact ⟨m - 1 - k, by omega, by unfold backW; rw [show m - 1 - (m - 1 - k) = k by omega]⟩
    · rintro ⟨k, hk, rfl⟩
      exact ⟨m - 1 - k, by omega, rfl⟩
  · have := R.at2 (m - 1 - k) (by omega)
    rw [e1 k hk, e2 k hk]
    exact this
  · have := R.at1 (m - 1 - k) (by omega)
    rw [e1 k hk, e2 k hk]
    exact this
  · rw [e1 k hk, e2 k hk]
    exact (R.only (m - 1 - k) x (by omega) hx).symm
/-- the steps round from the s-th caller -/
def arcL (m : Nat) (n : Nat → Str) (W : Nat → Way) (s l : Nat) : List (Str × Way) := (List.range l).map fun i => (n ((s + i) % m), W ((s + i) % m))
theorem arc_succ (s l : Nat) : arcL m n W s (l + 1) = arcL m n W s l ++ [(n ((s + l) % m), W ((s + l) % m))] := by
  unfold arcL
  rw [List.range_succ, List.map_append]
  rfl
theorem arc_len (s l : Nat) : (arcL m n W s l).length = l := by unfold arcL; rw [List.length_map, List.length_range]
theorem mod_step (h : 3 ≤ m) (i : Nat) : (i % m + 1) % m = (i + 1) % m := by rw [Nat.mod_add_mod]
theorem RingP.arc (R : RingP qs m n W) (s : Nat) : ∀ l, Gone qs (n (s % m)) (arcL m n W s l) (n ((s + l) % m))
  | 0 => .nil
  | l + 1 => by
    rw [arc_succ]
    have h := R.at1 _ (mod_lt' R.m3 (s + l))
    have g := Gone.snoc (R.arc s l) ((R.mem _).mpr ⟨_, mod_lt' R.m3 (s + l), rfl⟩) h.1
    rw [h.2, mod_step R.m3] at g
    exact g
theorem arc_perm {s : Nat} (hs : s ≤ m) : (arcL m n W s m).Perm (arcL m n W 0 m) := by
  have e : ∀ f : Nat → Str × Way, ((List.range m).map fun i => f ((s + i) % m)).Perm ((List.range m).map fun i => f ((0 + i) % m)) := fun f => by
    have a : (List.range m).map (fun i => f ((s + i) % m)) = (List.range (m - s)).map (fun i => f (s + i)) ++ (List.range s).map f := by
      conv => lhs; rw [show m = (m - s) + s by omega, List.range_add, List.map_append, List.map_map]
      congr 1
      · refine List.map_congr_left fun i hi => ?_
        have := List.mem_range.mp hi
        rw [Nat.mod_eq_of_lt (by omega)]
      · refine List.map_congr_left fun i hi => ?_
        have := List.mem_range.mp hi
        show f ((s + (m - s + i)) % (m - s + s)) = f i
        rw [show s + (m - s + i) = i + (m - s + s) by omega, Nat.add_mod_right, Nat.mod_eq_of_lt (by omega)]
    have b : (List.range m).map (fun i => f ((0 + i) % m)) = (List.range s).map f ++ (List.range (m - s)).map (fun i => f (s + i)) := by
      conv => lhs; rw [show m = s + (m - s) by omega, List.range_add, List.map_append, List.map_map]
      congr 1
      · refine List.map_congr_left fun i hi => ?_
        have := List.mem_range.mp hi
        rw [Nat.zero_add, Nat.mod_eq_of_lt (by omega)]
      · refine List.map_congr_left fun i hi => ?_
        have := List.mem_range.mp hi
        show f ((0 + (s + i)) % (s + (m - s))) = f (s + i)
        rw [Nat.zero_add, Nat.mod_eq_of_lt (by omega)]
    rw [a, b]
    exact List.perm_append_comm
  exact e fun j => (n j, W j)
theorem RingP.Wsame (R : RingP qs m n W) {i j : Nat} (hi : i < m) (hj : j < m) (e : W i = W j) : i = j := by
  have m3 := R.m3
  have a1 := (R.at1 i hi).1
  have a2 := (R.at2 i hi).1
  rw [e] at a1 a2
  rcases R.only j _ hj a1 with h | h
  · exact R.inj _ _ hi hj h
  · have h := R.inj _ _ hi (mod_lt' m3 _) h
    rcases R.only j _ hj a2 with g | g
    · have g := R.inj _ _ (mod_lt' m3 _) hj g
      rw [mod_next m3 hi] at g
      rw [mod_next m3 hj] at h
      split at g <;> split at h <;> omega
    · have g := R.inj _ _ (mod_lt' m3 _) (mod_lt' m3 _) g
      rw [mod_next m3 hi, mod_next m3 hj] at g
      split at g <;> split at g <;> omega
theorem map_nodup {α : Type} {f : Nat → α} {l : Nat} (h : ∀ i j, i < l → j < l → f i = f j → i = j) : ((List.range l).map f).Nodup :=
  List.pairwise_map.mpr (List.Pairwise.imp_of_mem (fun {a b} ha hb (h1 : a < b) e => by have := h _ _ (List.mem_range.mp ha) (List.mem_range.mp hb) e; omega) List.pairwise_lt_range)
theorem mod_inj {s i j : Nat} (h : 3 ≤ m) (hi : i < m) (hj : j < m) (e : (s + i) % m = (s + j) % m) : i = j := by
  have h1 := Nat.div_add_mod (s + i) m
  have h2 := Nat.div_add_mod (s + j) m
  rw [e] at h1
  rcases Nat.lt_trichotomy ((s + i) / m) ((s + j) / m) with c | c | c
  · have := Nat.mul_le_mul_left m (show (s + i) / m + 1 ≤ (s + j) / m from c)
    rw [Nat.mul_add] at this
    omega
  · rw [c] at h1
    omega
  · have := Nat.mul_le_mul_left m (show (s + j) / m + 1 ≤ (s + i) / m from c)
    rw [Nat.mul_add] at this
    omega
theorem RingP.ring (R : RingP qs m n W) {s : Nat} (hs : s < m) : Ring qs (n s) (arcL m n W s m) := by
  have g := R.arc s m
  rw [Nat.add_mod_right, Nat.mod_eq_of_lt hs] at g
  refine ⟨g, ?_, ?_, fun e => ?_⟩
  · unfold arcL
    rw [List.map_map]
    exact map_nodup fun i j hi hj e => mod_inj R.m3 hi hj (R.inj _ _ (mod_lt' R.m3 _) (mod_lt' R.m3 _) e)
  · unfold arcL
    rw [List.map_map]
    exact map_nodup fun i j hi hj e => mod_inj R.m3 hi hj (R.Wsame (mod_lt' R.m3 _) (mod_lt' R.m3 _) e)
  · have := congrArg List.length e
    rw [arc_len] at this
    have := R.m3
    have : m = 0 := by assumption
    omega
/-- steps that keep on round -/
theorem RingP.keep (R : RingP qs m n W) {s l : Nat} {q : Way} (hl : 1 ≤ l) (hq : q ∈ qs) (hx : atB (n ((s + l) % m)) q = true) (hw : ((arcL m n W s l ++ [(n ((s + l) % m), q)]).map (·.2)).Nodup) : arcL m n W s l ++ [(n ((s + l) % m), q)] = arcL m n W s (l + 1) ∧ thr (n ((s + l) % m)) q = n ((s + (l + 1)) % m) := by
  obtain ⟨k, hk, rfl⟩ := (R.mem q).mp hq
  rcases R.only k _ hk hx with h | h
  · have h := R.inj _ _ (mod_lt' R.m3 _) hk h
    subst h
    refine ⟨(arc_succ s l).symm, ?_⟩
    rw [(R.at1 _ hk).2, mod_step R.m3]
    rfl
  · exfalso
    have h := R.inj _ _ (mod_lt' R.m3 _) (mod_lt' R.m3 _) h
    rw [List.map_append] at hw
    refine (List.nodup_append.mp hw).2.2 (W k) (List.mem_map.mpr ⟨(n ((s + (l - 1)) % m), W ((s + (l - 1)) % m)), List.mem_map.mpr ⟨l - 1, List.mem_range.mpr (by omega), rfl⟩, ?_⟩) (W k) (by simp) rfl
    show W ((s + (l - 1)) % m) = W k
    congr 1
    have e : (s + (l - 1) % m + 1) % m = 0 ∨ True := .inr trivial
    have h2 : ((s + (l - 1)) % m + 1) % m = (k + 1) % m := by rw [mod_step R.m3, show s + (l - 1) + 1 = s + l by omega]; exact h
    have a := mod_lt' R.m3 (s + (l - 1))
    rw [mod_next R.m3 a, mod_next R.m3 hk] at h2
    split at h2 <;> split at h2 <;> omega
/-- each row of steps keeps on round, the one way or the other -/
theorem RingP.dir (R : RingP qs m n W) {a z : Str} {ps : List (Str × Way)} (g : Gone qs a ps z) {s : Nat} (hs : s < m) (ha : a = n s) (hw : (ps.map (·.2)).Nodup) :
    (ps = arcL m n W s ps.length ∧ z = n ((s + ps.length) % m)) ∨ (ps = arcL m (backN m n) (backW m W) ((m - s) % m) ps.length ∧ z = backN m n (((m - s) % m + ps.length) % m)) := by
  have m3 := R.m3
  induction g with
  | nil => exact .inl ⟨rfl, by rw [ha]; congr 1; exact (Nat.mod_eq_of_lt hs).symm⟩
  | @snoc ps x q g hq hx ih =>
    have hw0 : (ps.map (·.2)).Nodup := by rw [List.map_append] at hw; exact (List.nodup_append.mp hw).1
    have ih := ih hw0
    rw [List.length_append, List.length_singleton]
    by_cases p0 : ps = []
    · subst p0
      have ex : x = n s := by
        have := g.end_same .nil rfl
        rw [this, ha]
      rw [ex] at hx ⊢
      obtain ⟨k, hk, rfl⟩ := (R.mem q).mp hq
      rcases R.only k _ hk hx with h | h
      · have h := R.inj _ _ hs hk h
        subst h
        refine .inl ⟨?_, ?_⟩
        · show [(n s, W s)] = [(n ((s + 0) % m), W ((s + 0) % m))]
          rw [Nat.add_zero, Nat.mod_eq_of_lt hs]
        · exact (R.at1 _ hk).2
      · have h := R.inj _ _ hs (mod_lt' m3 _) h
        have e1 : (m - s) % m = m - 1 - k := by
          rw [mod_back m3 hs]
          rw [mod_next m3 hk] at h
          split at h <;> split <;> omega
        have e2 : backN m n (m - 1 - k) = n s := by
          unfold backN
          congr 1
          rw [mod_back m3 (show m - 1 - k < m by omega)]
          rw [mod_next m3 hk] at h
          split at h <;> split <;> omega
        refine .inr ⟨?_, ?_⟩
        · show [(n s, W k)] = [(backN m n (((m - s) % m + 0) % m), backW m W (((m - s) % m + 0) % m))]
          rw [Nat.add_zero, e1, Nat.mod_eq_of_lt (show m - 1 - k < m by omega), e2]
          unfold backW
          rw [show m - 1 - (m - 1 - k) = k by omega]
        · have b := (R.back.at1 (m - 1 - k) (by omega)).2
          rw [e2] at b
          have e3 : backW m W (m - 1 - k) = W k := by unfold backW; rw [show m - 1 - (m - 1 - k) = k by omega]
          rw [e3] at b
          rw [b, e1]
          rfl
    · have l1 : 1 ≤ ps.length := List.length_pos_iff.mpr p0
      rcases ih with ⟨e1, e2⟩ | ⟨e1, e2⟩
      · left
        obtain ⟨l, el⟩ : ∃ l, l = ps.length := ⟨_, rfl⟩
        rw [← el] at e1 e2 l1 ⊢
        rw [e1, e2] at hw
        rw [e2] at hx
        have := R.keep l1 hq hx hw
        rw [e1, e2]
        exact this
      · right
        obtain ⟨l, el⟩ : ∃ l, l = ps.length := ⟨_, rfl⟩
        rw [← el] at e1 e2 l1 ⊢
        rw [e1, e2] at hw
        rw [e2] at hx
        have := R.back.keep l1 hq hx hw
        rw [e1, e2]
        exact this
theorem RingP.caller (R : RingP qs m n W) {x : Str} {q : Way} (hq : q ∈ qs) (hx : atB x q = true) : ∃ s, s < m ∧ x = n s := by
  obtain ⟨k, hk, rfl⟩ := (R.mem q).mp hq
  rcases R.only k _ hk hx with h | h
  · exact ⟨k, hk, h⟩
  · exact ⟨_, mod_lt' R.m3 _, h⟩
theorem mod_full {s l : Nat} (h : 3 ≤ m) (hs : s < m) (l1 : 1 ≤ l) (lm : l ≤ m) (e : (s + l) % m = s) : l = m := by
  have h1 := Nat.div_add_mod (s + l) m
  rw [e] at h1
  have : l = m * ((s + l) / m) := by omega
  generalize (s + l) / m = d at *
  cases d with
  | zero => omega
  | succ d =>
    have : m * (d + 1) = m * d + m := by rw [Nat.mul_add, Nat.mul_one]
    omega
/-- each ring is the one round, or the one the other way about, begun anywhere -/
theorem RingP.rings (R : RingP qs m n W) {a : Str} {ps : List (Str × Way)} (r : Ring qs a ps) : ps.Perm (arcL m n W 0 m) ∨ ps.Perm (arcL m (backN m n) (backW m W) 0 m) := by
  have m3 := R.m3
  have l1 : 1 ≤ ps.length := List.length_pos_iff.mpr r.ne
  obtain ⟨s, hs, ha⟩ : ∃ s, s < m ∧ a = n s := by
    have g := r.gone
    generalize r.ne = ne
    cases ps with
    | nil => exact absurd rfl r.ne
    | cons e t =>
      obtain ⟨y, q⟩ := e
      have h1 := g.first
      have h2 := g.split (ps := []) rfl
      rw [← h1]
      exact R.caller h2.2.1 h2.2.2
  have lm : ps.length ≤ m := by
    have := nodup_sub (ns := (List.range m).map n) r.cs fun y hy => by
      obtain ⟨p, hp, rfl⟩ := List.mem_map.mp hy
      obtain ⟨u, v, e⟩ := List.append_of_mem hp
      obtain ⟨y, q⟩ := p
      have h2 := r.gone.split e
      obtain ⟨k, hk, e3⟩ := R.caller h2.2.1 h2.2.2
      exact List.mem_map.mpr ⟨k, List.mem_range.mpr hk, e3.symm⟩
    rw [List.length_map, List.length_map, List.length_range] at this
    exact this
  rcases R.dir r.gone hs ha r.ws with ⟨e1, e2⟩ | ⟨e1, e2⟩
  · left
    rw [ha] at e2
    have e2 := R.inj _ _ hs (mod_lt' m3 _) e2
    have := mod_full m3 hs l1 lm e2.symm
    rw [e1, this]
    exact arc_perm (by omega)
  · right
    have b : a = backN m n ((m - s) % m) := by
      rw [ha]
      unfold backN
      congr 1
      rw [mod_back m3 hs]
      split
      · rename_i e; rw [e, Nat.sub_zero, Nat.mod_self]
      · rw [mod_back m3 (by omega)]
        split <;> omega
    rw [b] at e2
    have e2 := R.back.inj _ _ (mod_lt' m3 _) (mod_lt' m3 _) e2
    have := mod_full m3 (mod_lt' m3 _) l1 lm e2.symm
    rw [e1, this]
    exact arc_perm (Nat.le_of_lt (mod_lt' m3 _))
theorem least_name : ∀ {l : Nat} (f : Nat → Str), 1 ≤ l → ∃ s, s < l ∧ ∀ i, i < l → ¬ (f i).cps < (f s).cps
  | 1, f, _ => ⟨0, by omega, fun i hi => by
    have : i = 0 := by omega
    rw [this]
    exact fun h => Array.lt_irrefl _ h⟩
  | l + 2, f, _ => by
    obtain ⟨s, hs, h⟩ := least_name (l := l + 1) f (by omega)
    by_cases c : (f (l + 1)).cps < (f s).cps
    · refine ⟨l + 1, by omega, fun i hi => ?_⟩
      by_cases e : i = l + 1
      · rw [e]; exact fun h => Array.lt_irrefl _ h
      · exact fun g => h i (by omega) (Array.lt_trans g c)
    · refine ⟨s, by omega, fun i hi => ?_⟩
      by_cases e : i = l + 1
      · rw [e]; exact c
      · exact h i (by omega)
/-- the ring round, begun at its least caller -/
theorem RingP.least (R : RingP qs m n W) : ∃ s, s < m ∧ Least (n s) (arcL m n W s m) := by
  obtain ⟨s, hs, h⟩ := least_name n (show 1 ≤ m by have := R.m3; omega)
  refine ⟨s, hs, fun p hp ne => ?_⟩
  obtain ⟨i, hi, rfl⟩ := List.mem_map.mp hp
  have g := h _ (mod_lt' R.m3 (s + i))
  have t : n ((s + i) % m) ≠ n s := ne
  show (n s).cps < (n ((s + i) % m)).cps
  rcases Decidable.em ((n s).cps < (n ((s + i) % m)).cps) with c | c
  · exact c
  · exact absurd (strLe_anti (List.not_lt.mp c) (List.not_lt.mp g)) t
end
end K1


set_option maxHeartbeats 4000000
namespace K1
open PySem PySem.Spec PyProof.Rows L2 RZ DL
local macro_rules | `(tactic| walk_at "dl") => `(tactic| simp [and_assoc, mRet, mAnd, mOr, mCall, mCons, mVar, mCls, mNil, mC, oIsi, oIsi2, mNot, startD, mSeq, mIfS, mTOr, mTAnd, mTNot, mTest, mChain, mNext, oA1, oA2, oIB, oII, oII0, mOp, mUn, mAsg, mgName, mgTup, mgCons_c, mgNil_n, zipAs_l, zipAs_t, oSl_l, oSl_t, oSl_s, oSl_r, mPart, mSl, mIf, wipeD, oSign, oSS, oLen, LenD_s, LenD_l, LenD_t, LenD_m, miZ, miS, miT, miL, miE, miR, oEq, oNe, eqD_i, eqD_b, eqD_s, oInT, oIx, ixD_l, ixD_t, ixD_s, ixD_m, ix0, ix1, ix2, ix3, oAbs, oInt, oMax, oMin, mPar, mPar3, mTup, mLst, mLstM, asD, mExpr, itemsD_l, itemsD_t, oNeg, mgSub, mset_same, mIsN, mDrp, mTIsN, oEqW, eqW_n, eqW_b, eqW_i, eqW_s, non_n, non_b, non_i, non_s, non_l, non_t, miR2, mDNew, mDGet, mDPut, mDisp, mPairs, kD_s, kD_i, isStr, isTup, isLst, isBool, DL.isInt, mAppend, mDPop, oNeE, miM, DL.HoldL, mDIn, mDictZip, oRepU, mListZip, oDictP, mCallP, pick, oNotB, mExtend, oSortA, oSortAM, mTupM, oIxT, mgTupC, mCallB, miD, miC, mGh, miMix, Sk.dat, mUpdate, mItems, oDictD, oListM, oListC, oRepL, oSortT, mVals, mDGetT, mDInT, mDPutT, mDGet2T, mLockE, mLockS, mNever, oSumI, oMaxI, mgLstU, oHpop, oHpush, mTru, mStar, mCont, mMinVals, mPop0, mTIsNM, mTIsNE, mRev])
section
variable {qs : List Way} {m : Nat} {n : Nat → Str} {W : Nat → Way} {b : Int} {last : Str → Option Int}
theorem sum_perm {l l' : List Int} (h : l.Perm l') : l.sum = l'.sum := by
  induction h with
  | nil => rfl
  | cons x _ ih => rw [List.sum_cons, List.sum_cons, ih]
  | swap x y l => rw [List.sum_cons, List.sum_cons, List.sum_cons, List.sum_cons]; omega
  | trans _ _ h1 h2 => rw [h1, h2]
theorem wind_perm {ps ps' : List (Str × Way)} (h : ps.Perm ps') : windI b last ps = windI b last ps' := sum_perm (h.map _)
theorem sum_neg {α : Type} {f g : α → Int} : ∀ {l : List α}, (∀ x ∈ l, f x = - g x) → (l.map f).sum = - (l.map g).sum
  | [], _ => rfl
  | x :: l, h => by
    rw [List.map_cons, List.map_cons, List.sum_cons, List.sum_cons, h x List.mem_cons_self, sum_neg fun y hy => h y (List.mem_cons_of_mem _ hy)]
    omega
/-- the steps round, the other way about -/
def turnL (m : Nat) (n : Nat → Str) (W : Nat → Way) : List (Str × Way) := ((List.range m).map fun k => (n ((k + 1) % m), W k)).reverse
theorem turn_back : turnL m n W = arcL m (backN m n) (backW m W) 0 m := by
  unfold turnL arcL
  refine List.ext_getElem (by rw [List.length_reverse, List.length_map, List.length_map]) fun i h1 h2 => ?_
  have hi : i < m := by rw [List.length_map, List.length_range] at h2; exact h2
  rw [List.getElem_reverse, List.getElem_map, List.getElem_map, List.getElem_range, List.getElem_range, Nat.zero_add, Nat.mod_eq_of_lt hi]
  simp only [List.length_map, List.length_range]
  unfold backN backW
  rw [show m - 1 - i + 1 = m - i by omega]
/-- how the way leans from one end, and from the other -/
theorem lean_other {x y : Str} {q : Way} (hx : atB x q = true) (hy : thr x q = y) (ne : q.2.1 ≠ q.2.2.1) : leanF b last y q = - leanF b last x q := by
  have hx := of_decide_eq_true hx
  subst hy
  unfold leanF thr
  by_cases c : x = q.2.1
  · rw [if_pos c, if_pos c, if_neg (fun e => ne e.symm)]
  · rw [if_neg c, if_neg c, if_pos rfl]
    omega
theorem RingP.turned (R : RingP qs m n W) (ne : ∀ q ∈ qs, q.2.1 ≠ q.2.2.1) : windI b last (turnL m n W) = - windI b last (arcL m n W 0 m) := by
  unfold windI turnL arcL
  rw [sum_perm ((List.reverse_perm _).map _), List.map_map, List.map_map]
  refine sum_neg fun k hk => ?_
  have hk := List.mem_range.mp hk
  show leanF b last (n ((k + 1) % m)) (W k) = - leanF b last (n ((0 + k) % m)) (W ((0 + k) % m))
  rw [Nat.zero_add, Nat.mod_eq_of_lt hk]
  exact lean_other (R.at1 k hk).1 (R.at1 k hk).2 (ne _ ((R.mem _).mpr ⟨k, hk, rfl⟩))
/-- the leans of the ways up to the k-th -/
noncomputable def upL (b : Int) (last : Str → Option Int) (n : Nat → Str) (W : Nat → Way) : Nat → Int
  | 0 => 0
  | k + 1 => upL b last n W k + leanF b last (n k) (W k)
theorem wind_up : ∀ l, l ≤ m → windI b last (arcL m n W 0 l) = upL b last n W l
  | 0, _ => rfl
  | l + 1, h => by
    rw [arc_succ]
    unfold windI
    rw [List.map_append, List.sum_append]
    show windI b last (arcL m n W 0 l) + _ = _
    rw [wind_up l (by omega), Nat.zero_add, Nat.mod_eq_of_lt (by omega : l < m)]
    simp [upL]
/-- a ring that doesn't wind: numbers that fit -/
theorem RingP.fits (R : RingP qs m n W) (ne : ∀ q ∈ qs, q.2.1 ≠ q.2.2.1) (w0 : windI b last (arcL m n W 0 m) = 0) {c : Str} : ∃ Φ, FitsP b last qs c Φ := by
  have m3 := R.m3
  rw [wind_up m (Nat.le_refl _)] at w0
  obtain ⟨ix, hix⟩ : ∃ ix : Str → Nat, ∀ k, k < m → ix (n k) = k := by
    refine ⟨fun x => ((List.range m).find? fun k => decide (n k = x)).getD 0, fun k hk => ?_⟩
    cases e : (List.range m).find? fun j => decide (n j = n k) with
    | none => exact absurd (List.find?_eq_none.mp e k (List.mem_range.mpr hk)) (by simp)
    | some j =>
      have h1 : n j = n k := by simpa using List.find?_some e
      have h2 := List.mem_range.mp (List.mem_of_find?_eq_some e)
      show ((List.range m).find? fun j => decide (n j = n k)).getD 0 = k
      rw [e]
      exact R.inj _ _ h2 hk h1
  refine ⟨fun x => upL b last n W (ix x), fun x _ q hq hx => ?_⟩
  obtain ⟨k, hk, rfl⟩ := (R.mem q).mp hq
  have a1 := R.at1 k hk
  have st : upL b last n W (ix (n ((k + 1) % m))) = upL b last n W k + leanF b last (n k) (W k) := by
    rw [hix _ (mod_lt' m3 _), mod_next m3 hk]
    split
    · rename_i e
      have : upL b last n W (k + 1) = upL b last n W k + leanF b last (n k) (W k) := rfl
      rw [e, w0] at this
      show (0 : Int) = _
      exact this
    · rfl
  rcases R.only k x hk hx with h | h
  · rw [h, a1.2]
    show _ = upL b last n W (ix (n ((k + 1) % m))) - upL b last n W (ix (n k))
    rw [st, hix k hk]
    omega
  · rw [h, (R.at2 k hk).2]
    show _ = upL b last n W (ix (n k)) - upL b last n W (ix (n ((k + 1) % m)))
    rw [st, hix k hk, lean_other a1.1 a1.2 (ne _ hq)]
    omega
theorem Gone.lk {a x c : Str} {ps : List (Str × Way)} (g : Gone qs a ps x) (h : Lk qs c a) : Lk qs c x := by
  induction g with
  | nil => exact h
  | snoc g hq hx ih => exact .on ih hq hx
theorem FitsP.gone {c a x : Str} {Φ : Str → Int} (h : FitsP b last qs c Φ) {ps : List (Str × Way)} (g : Gone qs a ps x) (la : Lk qs c a) : windI b last ps = Φ x - Φ a := by
  induction g with
  | nil => show (0 : Int) = _; omega
  | @snoc ps x q g hq hx ih =>
    have e : windI b last (ps ++ [(x, q)]) = windI b last ps + leanF b last x q := by simp [windI]
    rw [e, ih, h x (g.lk la) q hq hx]
    omega
/-- all of a ring's callers are of one part -/
theorem RingP.lk (R : RingP qs m n W) {i j : Nat} (hi : i < m) (hj : j < m) : Lk qs (n i) (n j) := by
  have g := R.arc i (m - i + j)
  have := g.lk (c := n i) (by rw [Nat.mod_eq_of_lt hi]; exact .here)
  rw [show i + (m - i + j) = j + m by omega, Nat.add_mod_right, Nat.mod_eq_of_lt hj] at this
  exact this
/-- a ring that winds: no numbers fit -/
theorem RingP.none (R : RingP qs m n W) (w0 : windI b last (arcL m n W 0 m) ≠ 0) {i : Nat} (hi : i < m) (Φ : Str → Int) : ¬ FitsP b last qs (n i) Φ := fun h => by
  have m3 := R.m3
  have r := R.ring (s := 0) (by omega)
  have := h.gone r.gone (R.lk hi (by omega))
  exact w0 (by omega)
/-- rows of names and names, sorted: by their members, where the first names differ -/
def prT (p : Str × Str) : PyData := .tuple [.str p.1, .str p.2]
theorem prT_le (x y : Str × Str) (ne : x.1 ≠ y.1) : leD (prT x) (prT y) = decide (x.1.cps.toList ≤ y.1.cps.toList) := by
  show (!PySem.W.dataLt (prT y) (prT x)) = _
  unfold prT
  rw [PySem.W.dataLt_tuple, PySem.W.dataLt_all_no (x := .str y.1) (y := .str x.1) (by rfl) (by simp [PyData.eqv]; exact ne.symm), PySem.W.dataLt_str]
  by_cases h : y.1.cps.toList < x.1.cps.toList
  · rw [decide_eq_true h, decide_eq_false (List.not_le.mpr h)]; rfl
  · rw [decide_eq_false h, decide_eq_true (List.not_lt.mp h)]; rfl
theorem prT_self (x : Str × Str) : leD (prT x) (prT x) = true := by
  show (!PySem.W.dataLt (prT x) (prT x)) = true
  unfold prT
  rw [PySem.W.dataLt_tuple, PySem.W.dataLt_all_yes (x := .str x.1) (y := .str x.1) (by rfl) (by simp [PyData.eqv]), PySem.W.dataLt_all_yes (x := .str x.2) (y := .str x.2) (by rfl) (by simp [PyData.eqv])]
  rfl
theorem prT_le2 (x y : Str × Str) (e : x.1 = y.1) (ne : x.2 ≠ y.2) : leD (prT x) (prT y) = decide (x.2.cps.toList ≤ y.2.cps.toList) := by
  show (!PySem.W.dataLt (prT y) (prT x)) = _
  unfold prT
  rw [PySem.W.dataLt_tuple, PySem.W.dataLt_all_yes (x := .str y.1) (y := .str x.1) (by rfl) (by simp [PyData.eqv]; exact e.symm), PySem.W.dataLt_all_no (x := .str y.2) (y := .str x.2) (by rfl) (by simp [PyData.eqv]; exact ne.symm), PySem.W.dataLt_str]
  by_cases h : y.2.cps.toList < x.2.cps.toList
  · rw [decide_eq_true h, decide_eq_false (List.not_le.mpr h)]; rfl
  · rw [decide_eq_false h, decide_eq_true (List.not_lt.mp h)]; rfl
def leT (x y : Str × Str) : Prop := (x.1 ≠ y.1 ∧ strLe x.1 y.1) ∨ (x.1 = y.1 ∧ strLe x.2 y.2)
theorem leT_iff (x y : Str × Str) : leD (prT x) (prT y) = true ↔ leT x y := by
  by_cases e : x.1 = y.1
  · by_cases e2 : x.2 = y.2
    · have : x = y := Prod.ext e e2
      subst this
      exact ⟨fun _ => .inr ⟨rfl, List.le_refl _⟩, fun _ => prT_self x⟩
    · rw [prT_le2 x y e e2, decide_eq_true_eq]
      exact ⟨fun h => .inr ⟨e, h⟩, fun h => h.elim (fun g => absurd e g.1) fun g => g.2⟩
  · rw [prT_le x y e, decide_eq_true_eq]
    exact ⟨fun h => .inl ⟨e, h⟩, fun h => h.elim (fun g => g.2) fun g => absurd g.1 e⟩
theorem leT_anti {x y : Str × Str} (h : leT x y) (g : leT y x) : x = y := by
  rcases h with ⟨n, h⟩ | ⟨e, h⟩
  · rcases g with ⟨_, g⟩ | ⟨e, _⟩
    · exact absurd (strLe_anti h g) n
    · exact absurd e.symm n
  · rcases g with ⟨n, _⟩ | ⟨_, g⟩
    · exact absurd e.symm n
    · exact Prod.ext e (strLe_anti h g)
theorem leT_trans {x y z : Str × Str} (h : leT x y) (g : leT y z) : leT x z := by
  rcases h with ⟨n, h⟩ | ⟨e, h⟩ <;> rcases g with ⟨n2, g⟩ | ⟨e2, g⟩
  · exact .inl ⟨fun e => n (strLe_anti h (by rw [e]; exact g)), strLe_trans h g⟩
  · exact .inl ⟨by rw [← e2]; exact n, by rw [← e2]; exact h⟩
  · exact .inl ⟨by rw [e]; exact n2, by rw [e]; exact g⟩
  · exact .inr ⟨e.trans e2, strLe_trans h g⟩
theorem leT_total (x y : Str × Str) : leT x y ∨ leT y x := by
  by_cases e : x.1 = y.1
  · exact (strLe_total x.2 y.2).imp (fun h => .inr ⟨e, h⟩) fun h => .inr ⟨e.symm, h⟩
  · exact (strLe_total x.1 y.1).imp (fun h => .inl ⟨e, h⟩) fun h => .inl ⟨fun g => e g.symm, h⟩
/-- rows of two names, sorted, are the same in whatever order they came -/
theorem srt_prT {l l' : List (Str × Str)} (p : l.Perm l') : srtD (l.map prT) = srtD (l'.map prT) := by
  have e : ∀ l : List (Str × Str), srtD (l.map prT) = (l.mergeSort fun x y => leD (prT x) (prT y)).map prT := fun l => (List.map_mergeSort (f := prT) (r := fun x y => leD (prT x) (prT y)) (s := leD) (l := l) fun _ _ _ _ => rfl).symm
  have s : ∀ l : List (Str × Str), (l.mergeSort fun x y => leD (prT x) (prT y)).Pairwise leT := fun l => (List.pairwise_mergeSort (le := fun x y => leD (prT x) (prT y)) (fun a b c h g => (leT_iff a c).mpr (leT_trans ((leT_iff a b).mp h) ((leT_iff b c).mp g))) (fun a b => by
    rcases leT_total a b with h | h
    · rw [(leT_iff a b).mpr h]; rfl
    · rw [(leT_iff b a).mpr h, Bool.or_true]) l).imp fun h => (leT_iff _ _).mp h
  rw [e, e]
  congr 1
  exact DL.perm_rise (R := leT) (fun _ _ => leT_anti) ((List.mergeSort_perm _ _).trans (p.trans (List.mergeSort_perm _ _).symm)) (s l) (s l')
theorem srt_mem {l : List (Str × Str)} {d : PyData} (h : d ∈ srtD (l.map prT)) : ∃ p ∈ l, d = prT p := by
  have h := (List.mergeSort_perm _ _).mem_iff.mp h
  obtain ⟨p, hp, rfl⟩ := List.mem_map.mp h
  exact ⟨p, hp, rfl⟩
theorem prT_fine {p : Str × Str} (h : nmOk p.1 ∧ nmOk p.2) : fine 0 (prT p) = true ∧ (prT p).depth ≤ 1 := by
  refine ⟨?_, by simp [prT, PyData.depth, PyData.depthAll]⟩
  refine fineAll_iff.mpr fun y hy => ?_
  simp only [List.mem_cons, List.not_mem_nil, or_false] at hy
  rcases hy with rfl | rfl
  · exact nm_fine h.1
  · exact nm_fine h.2
theorem prT_sortable (l : List (Str × Str)) : PySem.W.AllAlike (l.map prT) ∧ PySem.W.Sortable (l.map prT) ∧ ∀ d ∈ l.map prT, d.depth ≤ 60 :=
  ⟨PySem.W.AllAlike.of fun r r' => by simp [prT, PySem.W.alike, PySem.W.alikeAll], PySem.W.Sortable.tuples fun _ => ⟨_, _, rfl⟩, fun d hd => by
    obtain ⟨r, _, rfl⟩ := List.mem_map.mp hd
    simp [prT, PyData.depth, PyData.depthAll]⟩
theorem srt_fine {l : List (Str × Str)} (h : ∀ p ∈ l, nmOk p.1 ∧ nmOk p.2) : fine 0 (.list (srtD (l.map prT))) = true ∧ (PyData.list (srtD (l.map prT))).depth ≤ 2 := by
  refine ⟨fineAll_iff.mpr fun d hd => ?_, ?_⟩
  · obtain ⟨p, hp, rfl⟩ := srt_mem hd
    exact (prT_fine (h p hp)).1
  · simp only [PyData.depth]
    have := depthAll_le (m := 1) (xs := srtD (l.map prT)) fun d hd => by
      obtain ⟨p, hp, rfl⟩ := srt_mem hd
      exact (prT_fine (h p hp)).2
    omega
theorem rangeD_nat (N : Nat) : rangeD 0 N = (List.range N).map fun k => PyData.int ((k : Nat) : Int) := by
  refine List.ext_getElem (by simp [rangeD]) fun i h1 h2 => ?_
  obtain ⟨e, _⟩ := rangeD_get (List.getElem?_eq_getElem h1)
  rw [e, List.getElem_map, List.getElem_range]
theorem atI_lastN {g : Nat → PyData} {c : Nat} (h : 1 ≤ c) : atI ((List.range c).map g) (-1) = some (g (c - 1)) := by
  have hl : ((List.range c).map g).length = c := by rw [List.length_map, List.length_range]
  have e : ixN ((List.range c).map g).length (-1) = some (c - 1) := by
    rw [hl]
    unfold ixN
    rw [if_neg (by omega), if_pos (by omega)]
    congr 1
    omega
  unfold atI
  rw [e]
  show ((List.range c).map g)[c - 1]? = _
  rw [List.getElem?_map, List.getElem?_range (by omega)]
  rfl
theorem two_ints {i j : Int} (hi : i.natAbs ≤ 1000) (hj : j.natAbs ≤ 1000) : Ok 0 3 1 (.list [.int i, .int j]) :=
  (ok_list (k := 2) (b := 1) (m := 0) (fun d hd => by
    simp only [List.mem_cons, List.not_mem_nil, or_false] at hd
    rcases hd with rfl | rfl
    · exact ⟨small_int hi, by simp [sz], by simp [PyData.depth]⟩
    · exact ⟨small_int hj, by simp [sz], by simp [PyData.depth]⟩) (by simp)).le (by omega) (by omega) (by omega)
end
end K1


set_option maxHeartbeats 4000000
namespace K1
open PySem PySem.Spec PyProof.Rows L2 RZ DL
local macro_rules | `(tactic| walk_at "dl") => `(tactic| simp [and_assoc, mRet, mAnd, mOr, mCall, mCons, mVar, mCls, mNil, mC, oIsi, oIsi2, mNot, startD, mSeq, mIfS, mTOr, mTAnd, mTNot, mTest, mChain, mNext, oA1, oA2, oIB, oII, oII0, mOp, mUn, mAsg, mgName, mgTup, mgCons_c, mgNil_n, zipAs_l, zipAs_t, oSl_l, oSl_t, oSl_s, oSl_r, mPart, mSl, mIf, wipeD, oSign, oSS, oLen, LenD_s, LenD_l, LenD_t, LenD_m, miZ, miS, miT, miL, miE, miR, oEq, oNe, eqD_i, eqD_b, eqD_s, oInT, oIx, ixD_l, ixD_t, ixD_s, ixD_m, ix0, ix1, ix2, ix3, oAbs, oInt, oMax, oMin, mPar, mPar3, mTup, mLst, mLstM, asD, mExpr, itemsD_l, itemsD_t, oNeg, mgSub, mset_same, mIsN, mDrp, mTIsN, oEqW, eqW_n, eqW_b, eqW_i, eqW_s, non_n, non_b, non_i, non_s, non_l, non_t, miR2, mDNew, mDGet, mDPut, mDisp, mPairs, kD_s, kD_i, isStr, isTup, isLst, isBool, DL.isInt, mAppend, mDPop, oNeE, miM, DL.HoldL, mDIn, mDictZip, oRepU, mListZip, oDictP, mCallP, pick, oNotB, mExtend, oSortA, oSortAM, mTupM, oIxT, mgTupC, mCallB, miD, miC, mGh, miMix, Sk.dat, mUpdate, mItems, oDictD, oListM, oListC, oRepL, oSortT, mVals, mDGetT, mDInT, mDPutT, mDGet2T, mLockE, mLockS, mNever, oSumI, oMaxI, mgLstU, oHpop, oHpush, mTru, mStar, mCont, mMinVals, mPop0, mTIsNM])
section
/-- the one of two names that comes first, and the other one -/
def loS (a b : Str) : Str := if sortedS [a, b] = true then a else b
def hiS (a b : Str) : Str := if sortedS [a, b] = true then b else a
theorem two_sorted {a b : Str} (ne : a ≠ b) {ys : List Str} (p : ys.Perm [a, b]) (s : sortedS ys = true) : ys = [loS a b, hiS a b] := by
  unfold loS hiS
  have nd : [a, b].Nodup := by simp [ne]
  by_cases h : sortedS [a, b] = true
  · rw [if_pos h, if_pos h]
    exact sorted_same s h (p.nodup_iff.mpr nd) nd fun c => p.mem_iff
  · rw [if_neg h, if_neg h]
    have h2 : sortedS [b, a] = true := le_sortedS (by
      rcases strLe_total a b with q | q
      · exact absurd (le_sortedS (by simp [q])) h
      · simp [q])
    exact sorted_same s h2 (p.nodup_iff.mpr nd) (by simp [ne.symm]) fun c => p.mem_iff.trans (by simp [or_comm])
theorem lohi (a b : Str) : (loS a b = a ∧ hiS a b = b) ∨ (loS a b = b ∧ hiS a b = a) := by
  unfold loS hiS
  split
  · exact .inl ⟨rfl, rfl⟩
  · exact .inr ⟨rfl, rfl⟩
def leW (x y : Way) : Bool := leD (rowD x) (rowD y)
theorem srt_ways (rows : List Way) : srtD (rows.map rowD) = (rows.mergeSort leW).map rowD := (List.map_mergeSort (f := rowD) (r := leW) (s := leD) (l := rows) fun _ _ _ _ => rfl).symm
theorem ways_sortable (rows : List Way) : PySem.W.AllAlike (rows.map rowD) ∧ PySem.W.Sortable (rows.map rowD) ∧ ∀ d ∈ rows.map rowD, d.depth ≤ 60 :=
  ⟨PySem.W.AllAlike.of fun r r' => by simp [rowD, PySem.W.alike, PySem.W.alikeAll], PySem.W.Sortable.tuples fun _ => ⟨_, _, rfl⟩, fun d hd => by
    obtain ⟨r, _, rfl⟩ := List.mem_map.mp hd
    simp [rowD, PyData.depth, PyData.depthAll]⟩
/-- what a way's two ends know of each other -/
structure PairOk (b β : Int) (la lb : Option Int) (fa fb : Int) : Prop where
  ab : owes b β la lb → fb - fa = -1
  ba : owes b β lb la → fb - fa = 1
  no : ¬ owes b β la lb → ¬ owes b β lb la → fb = fa
theorem PairOk.comm {b β : Int} {la lb : Option Int} {fa fb : Int} (h : PairOk b β la lb fa fb) : PairOk b β lb la fb fa := ⟨fun c => by have := h.ba c; omega, fun c => by have := h.ab c; omega, fun c d => (h.no d c).symm⟩
end
end K1


set_option maxHeartbeats 4000000
namespace K1
open PySem PySem.Spec PyProof.Rows L2 RZ DL
local macro_rules | `(tactic| walk_at "dl") => `(tactic| simp [and_assoc, mRet, mAnd, mOr, mCall, mCons, mVar, mCls, mNil, mC, oIsi, oIsi2, mNot, startD, mSeq, mIfS, mTOr, mTAnd, mTNot, mTest, mChain, mNext, oA1, oA2, oIB, oII, oII0, mOp, mUn, mAsg, mgName, mgTup, mgCons_c, mgNil_n, zipAs_l, zipAs_t, oSl_l, oSl_t, oSl_s, oSl_r, mPart, mSl, mIf, wipeD, oSign, oSS, oLen, LenD_s, LenD_l, LenD_t, LenD_m, miZ, miS, miT, miL, miE, miR, oEq, oNe, eqD_i, eqD_b, eqD_s, oInT, oIx, ixD_l, ixD_t, ixD_s, ixD_m, ix0, ix1, ix2, ix3, oAbs, oInt, oMax, oMin, mPar, mPar3, mTup, mLst, mLstM, asD, mExpr, itemsD_l, itemsD_t, oNeg, mgSub, mset_same, mIsN, mDrp, mTIsN, oEqW, eqW_n, eqW_b, eqW_i, eqW_s, non_n, non_b, non_i, non_s, non_l, non_t, miR2, mDNew, mDGet, mDPut, mDisp, mPairs, kD_s, kD_i, isStr, isTup, isLst, isBool, DL.isInt, mAppend, mDPop, oNeE, miM, DL.HoldL, mDIn, mDictZip, oRepU, mListZip, oDictP, mCallP, pick, oNotB, mExtend, oSortA, oSortAM, mTupM, oIxT, mgTupC, mCallB, miD, miC, mGh, miMix, Sk.dat, mUpdate, mItems, oDictD, oListM, oListC, oRepL, oSortT, mVals, mDGetT, mDInT, mDPutT, mDGet2T, mLockE, mLockS, mNever, oSumI, oMaxI, mgLstU, oHpop, oHpush, mTru, mStar, mCont, mMinVals, mPop0, mTIsNM, mTIsNE, mRev])
section
variable {qs : List Way} {m : Nat} {n nm : Nat → Str} {bt : Nat → Int}
/-- a ring's way from the k-th caller on, as the law lays it -/
def ringW (n nm : Nat → Str) (bt : Nat → Int) (m k : Nat) : Way := (nm k, loS (n k) (n ((k + 1) % m)), hiS (n k) (n ((k + 1) % m)), bt k)
theorem ringW_at {k : Nat} (ne : n k ≠ n ((k + 1) % m)) : atB (n k) (ringW n nm bt m k) = true ∧ atB (n ((k + 1) % m)) (ringW n nm bt m k) = true ∧ thr (n k) (ringW n nm bt m k) = n ((k + 1) % m) ∧ thr (n ((k + 1) % m)) (ringW n nm bt m k) = n k := by
  unfold atB thr ringW
  rcases lohi (n k) (n ((k + 1) % m)) with ⟨e1, e2⟩ | ⟨e1, e2⟩
  · simp [e1, e2, ne, ne.symm]
  · simp [e1, e2, ne, ne.symm]
theorem ring_plan {ys : List Str} (p : qs.Perm ((List.range m).map (ringW n nm bt m))) (py : ys.Perm ((List.range m).map n)) (m3 : 3 ≤ m) (m8 : m ≤ 8) (inj : ∀ i j, i < m → j < m → n i = n j → i = j) (inj2 : ∀ i j, i < m → j < m → nm i = nm j → i = j) (hb : ∀ k, k < m → 1 ≤ bt k ∧ bt k ≤ 6) (nok : ∀ k, k < m → nmOk (n k)) (nok2 : ∀ k, k < m → nmOk (nm k)) : PlanNm ys qs ∧ RingP qs m n (ringW n nm bt m) := by
  have yn : ys.Nodup := py.nodup_iff.mpr (map_nodup inj)
  have mem : ∀ k, k < m → n k ∈ ys := fun k h => py.mem_iff.mpr (List.mem_map.mpr ⟨k, List.mem_range.mpr h, rfl⟩)
  have at_ : ∀ q, q ∈ qs ↔ ∃ k, k < m ∧ q = ringW n nm bt m k := fun q => by
    rw [p.mem_iff, List.mem_map]
    exact ⟨fun ⟨k, hk, e⟩ => ⟨k, List.mem_range.mp hk, e.symm⟩, fun ⟨k, hk, e⟩ => ⟨k, List.mem_range.mpr hk, e.symm⟩⟩
  have nx : ∀ k, k < m → n k ≠ n ((k + 1) % m) := fun k hk e => by
    have := inj _ _ hk (mod_lt' m3 _) e
    rw [mod_next m3 hk] at this
    split at this <;> omega
  refine ⟨⟨⟨yn, by rw [py.length_eq]; simp; omega, by rw [p.length_eq, List.length_map, List.length_range]; omega, fun q hq => ?_⟩, ?_, fun s hs => ?_, fun q hq => ?_⟩, m3, inj, at_, fun k hk => ?_, fun k hk => ?_, fun k x hk hx => ?_⟩
  · obtain ⟨k, hk, rfl⟩ := (at_ q).mp hq
    have := hb k hk
    have h1 := mem k hk
    have h2 := mem _ (mod_lt' m3 (k + 1))
    unfold ringW
    rcases lohi (n k) (n ((k + 1) % m)) with ⟨e1, e2⟩ | ⟨e1, e2⟩
    · simp only [e1, e2]
      exact ⟨h1, h2, nx k hk, this.1, this.2⟩
    · simp only [e1, e2]
      exact ⟨h2, h1, (nx k hk).symm, this.1, this.2⟩
  · refine (p.map _).nodup_iff.mpr ?_
    rw [List.map_map]
    exact map_nodup inj2
  · obtain ⟨k, hk, rfl⟩ := List.mem_map.mp (py.mem_iff.mp hs)
    exact nok k (List.mem_range.mp hk)
  · obtain ⟨k, hk, rfl⟩ := (at_ q).mp hq
    exact nok2 k hk
  · have := ringW_at (nm := nm) (bt := bt) (nx k hk)
    exact ⟨this.1, this.2.2.1⟩
  · have := ringW_at (nm := nm) (bt := bt) (nx k hk)
    exact ⟨this.2.1, this.2.2.2⟩
  · have hx := of_decide_eq_true hx
    unfold ringW at hx
    rcases lohi (n k) (n ((k + 1) % m)) with ⟨e1, e2⟩ | ⟨e1, e2⟩
    · simp only [e1, e2] at hx
      exact hx
    · simp only [e1, e2] at hx
      exact hx.symm
/-- how a ring's way leans, from what its ends know of each other -/
theorem lean_ring {b : Int} {last : Str → Option Int} {k : Nat} {v : Int} (ne : n k ≠ n ((k + 1) % m)) (h : PairOk b (bt k) (last (n k)) (last (n ((k + 1) % m))) 0 v) : leanF b last (n k) (ringW n nm bt m k) = v := by
  have key : ∀ x y : Option Int, PairOk b (bt k) x y 0 v → @ite _ (owes b (bt k) x y) (Classical.propDecidable _) (-1) (@ite _ (owes b (bt k) y x) (Classical.propDecidable _) 1 0) = v := fun x y h => by
    split
    · rename_i c; have := h.ab c; omega
    · rename_i c
      split
      · rename_i c2; have := h.ba c2; omega
      · rename_i c2; have := h.no c c2; omega
  have lh := lohi (n k) (n ((k + 1) % m))
  unfold leanF leanI ringW
  show (if n k = loS (n k) (n ((k + 1) % m)) then @ite _ (owes b (bt k) (last (loS (n k) (n ((k + 1) % m)))) (last (hiS (n k) (n ((k + 1) % m))))) (Classical.propDecidable _) (-1) (@ite _ (owes b (bt k) (last (hiS (n k) (n ((k + 1) % m)))) (last (loS (n k) (n ((k + 1) % m))))) (Classical.propDecidable _) 1 0) else -@ite _ (owes b (bt k) (last (loS (n k) (n ((k + 1) % m)))) (last (hiS (n k) (n ((k + 1) % m))))) (Classical.propDecidable _) (-1) (@ite _ (owes b (bt k) (last (hiS (n k) (n ((k + 1) % m)))) (last (loS (n k) (n ((k + 1) % m))))) (Classical.propDecidable _) 1 0)) = v
  generalize loS (n k) (n ((k + 1) % m)) = lo at lh ⊢
  generalize hiS (n k) (n ((k + 1) % m)) = hi at lh ⊢
  rcases lh with ⟨e1, e2⟩ | ⟨e1, e2⟩
  · subst e1 e2
    rw [if_pos rfl]
    exact key _ _ h
  · subst e1 e2
    rw [if_neg ne]
    have : PairOk b (bt k) (last (n ((k + 1) % m))) (last (n k)) 0 (-v) := ⟨fun c => by have := h.ba c; omega, fun c => by have := h.ab c; omega, fun c d => by have := h.no d c; omega⟩
    have key2 : @ite _ (owes b (bt k) (last (n ((k + 1) % m))) (last (n k))) (Classical.propDecidable _) (-1) (@ite _ (owes b (bt k) (last (n k)) (last (n ((k + 1) % m)))) (Classical.propDecidable _) 1 0) = -v := by
      split
      · rename_i c; have := this.ab c; omega
      · rename_i c
        split
        · rename_i c2; have := this.ba c2; omega
        · rename_i c2; have := this.no c c2; omega
    rw [key2]
    omega
end
end K1


set_option maxHeartbeats 4000000
namespace K1
open PySem PySem.Spec PyProof.Rows L2 RZ DL
local macro_rules | `(tactic| walk_at "dl") => `(tactic| simp [and_assoc, mRet, mAnd, mOr, mCall, mCons, mVar, mCls, mNil, mC, oIsi, oIsi2, mNot, startD, mSeq, mIfS, mTOr, mTAnd, mTNot, mTest, mChain, mNext, oA1, oA2, oIB, oII, oII0, mOp, mUn, mAsg, mgName, mgTup, mgCons_c, mgNil_n, zipAs_l, zipAs_t, oSl_l, oSl_t, oSl_s, oSl_r, mPart, mSl, mIf, wipeD, oSign, oSS, oLen, LenD_s, LenD_l, LenD_t, LenD_m, miZ, miS, miT, miL, miE, miR, oEq, oNe, eqD_i, eqD_b, eqD_s, oInT, oIx, ixD_l, ixD_t, ixD_s, ixD_m, ix0, ix1, ix2, ix3, oAbs, oInt, oMax, oMin, mPar, mPar3, mTup, mLst, mLstM, asD, mExpr, itemsD_l, itemsD_t, oNeg, mgSub, mset_same, mIsN, mDrp, mTIsN, oEqW, eqW_n, eqW_b, eqW_i, eqW_s, non_n, non_b, non_i, non_s, non_l, non_t, miR2, mDNew, mDGet, mDPut, mDisp, mPairs, kD_s, kD_i, isStr, isTup, isLst, isBool, DL.isInt, mAppend, mDPop, oNeE, miM, DL.HoldL, mDIn, mDictZip, oRepU, mListZip, oDictP, mCallP, pick, oNotB, mExtend, oSortA, oSortAM, mTupM, oIxT, mgTupC, mCallB, miD, miC, mGh, miMix, Sk.dat, mUpdate, mItems, oDictD, oListM, oListC, oRepL, oSortT, mVals, mDGetT, mDInT, mDPutT, mDGet2T, mLockE, mLockS, mNever, oSumI, oMaxI, mgLstU, oHpop, oHpush, mTru, mStar, mCont, mMinVals, mPop0, mTIsNM, mTIsNE, mRev])
section
variable {m : Nat} {n : Nat → Str} {W : Nat → Way} {b : Int} {last : Str → Option Int}
/-! pieces of lists (as in PB) -/
def sF (ys : List Str) (k : Nat) : Str := ys.getD k (Str.ofString "")
theorem sF_at {ys : List Str} {k : Nat} (h : k < ys.length) : ys[k]? = some (sF ys k) := by
  unfold sF
  rw [List.getD_eq_getElem?_getD, List.getElem?_eq_getElem h]; rfl
theorem sF_inj {ys : List Str} (hn : ys.Nodup) {i j : Nat} (hi : i < ys.length) (hj : j < ys.length) (e : sF ys i = sF ys j) : i = j := by
  have h1 := sF_at hi
  have h2 := sF_at hj
  rw [← e, ← h1] at h2
  rw [List.getElem?_eq_getElem hi, List.getElem?_eq_getElem hj] at h2
  exact ((List.getElem_inj (h₀ := hj) (h₁ := hi) hn).mp (Option.some.inj h2)).symm
theorem sF_mem {ys : List Str} {k : Nat} (h : k < ys.length) : sF ys k ∈ ys := List.mem_of_getElem? (sF_at h)
theorem at_strF {ys : List Str} {k : Nat} (h : k < ys.length) : atI (ys.map PyData.str) (k : Int) = some (.str (sF ys k)) := atI_nat (by rw [List.getElem?_map, sF_at h]; rfl)
theorem range_sF (ys : List Str) : (List.range ys.length).map (sF ys) = ys := by
  refine List.ext_getElem (by simp) fun i h1 h2 => ?_
  rw [List.getElem_map, List.getElem_range]
  have := sF_at h2
  rw [List.getElem?_eq_getElem h2] at this
  exact (Option.some.inj this).symm
/-! waves round a ring whose ways are of as many beats, a third of the rest each -/
theorem third (k : Nat) : (0 - (k : Int)) % 3 = if k % 3 = 0 then 0 else if k % 3 = 1 then 2 else 1 := by
  split
  · omega
  · split <;> omega
theorem wave_pair {F β : Int} (h : 1 ≤ β) {i j : Nat} (hj : j % 3 = (i + 1) % 3) : PairOk F β (some (F - (0 - (i : Int)) % 3 * β)) (some (F - (0 - (j : Int)) % 3 * β)) 0 (if i % 3 = 0 then 1 else 0) := by
  rw [third i, third j]
  have c : i % 3 = 0 ∨ i % 3 = 1 ∨ i % 3 = 2 := by omega
  rcases c with c | c | c
  · have e : j % 3 = 1 := by omega
    rw [c, e]
    refine ⟨fun g => ?_, fun _ => rfl, fun _ g => absurd ⟨?_, ?_⟩ g⟩
    · have := g.1; simp at this; omega
    · simp; omega
    · simp; omega
  · have e : j % 3 = 2 := by omega
    rw [c, e]
    refine ⟨fun g => ?_, fun g => ?_, fun _ _ => rfl⟩
    · have := g.1; simp at this
    · have := g.1; simp at this; omega
  · have e : j % 3 = 0 := by omega
    rw [c, e]
    refine ⟨fun g => ?_, fun g => ?_, fun _ _ => rfl⟩
    · have := g.2; simp at this
    · have := g.2; simp at this; omega
theorem waves_wind {w : Nat} (hw : w = 1 ∨ w = 2) (hm : m = 3 * w) (h : ∀ k, k < m → leanF b last (n k) (W k) = if k % 3 = 0 then 1 else 0) : windI b last (arcL m n W 0 m) = w := by
  rw [wind_up m (Nat.le_refl _)]
  subst hm
  rcases hw with rfl | rfl
  · have h0 := h 0 (by omega)
    have h1 := h 1 (by omega)
    have h2 := h 2 (by omega)
    show 0 + leanF b last (n 0) (W 0) + leanF b last (n 1) (W 1) + leanF b last (n 2) (W 2) = _
    rw [h0, h1, h2]
    rfl
  · have h0 := h 0 (by omega)
    have h1 := h 1 (by omega)
    have h2 := h 2 (by omega)
    have h3 := h 3 (by omega)
    have h4 := h 4 (by omega)
    have h5 := h 5 (by omega)
    show 0 + leanF b last (n 0) (W 0) + leanF b last (n 1) (W 1) + leanF b last (n 2) (W 2) + leanF b last (n 3) (W 3) + leanF b last (n 4) (W 4) + leanF b last (n 5) (W 5) = _
    rw [h0, h1, h2, h3, h4, h5]
    rfl
end
end K1


set_option maxHeartbeats 4000000
namespace K1
open PySem PySem.Spec PyProof.Rows L2 RZ DL
local macro_rules | `(tactic| walk_at "dl") => `(tactic| simp [and_assoc, mRet, mAnd, mOr, mCall, mCons, mVar, mCls, mNil, mC, oIsi, oIsi2, mNot, startD, mSeq, mIfS, mTOr, mTAnd, mTNot, mTest, mChain, mNext, oA1, oA2, oIB, oII, oII0, mOp, mUn, mAsg, mgName, mgTup, mgCons_c, mgNil_n, zipAs_l, zipAs_t, oSl_l, oSl_t, oSl_s, oSl_r, mPart, mSl, mIf, wipeD, oSign, oSS, oLen, LenD_s, LenD_l, LenD_t, LenD_m, miZ, miS, miT, miL, miE, miR, oEq, oNe, eqD_i, eqD_b, eqD_s, oInT, oIx, ixD_l, ixD_t, ixD_s, ixD_m, ix0, ix1, ix2, ix3, oAbs, oInt, oMax, oMin, mPar, mPar3, mTup, mLst, mLstM, asD, mExpr, itemsD_l, itemsD_t, oNeg, mgSub, mset_same, mIsN, mDrp, mTIsN, oEqW, eqW_n, eqW_b, eqW_i, eqW_s, non_n, non_b, non_i, non_s, non_l, non_t, miR2, mDNew, mDGet, mDPut, mDisp, mPairs, kD_s, kD_i, isStr, isTup, isLst, isBool, DL.isInt, mAppend, mDPop, oNeE, miM, DL.HoldL, mDIn, mDictZip, oRepU, mListZip, oDictP, mCallP, pick, oNotB, mExtend, oSortA, oSortAM, mTupM, oIxT, mgTupC, mCallB, miD, miC, mGh, miMix, Sk.dat, mUpdate, mItems, oDictD, oListM, oListC, oRepL, oSortT, mVals, mDGetT, mDInT, mDPutT, mDGet2T, mLockE, mLockS, mNever, oSumI, oMaxI, mgLstU, oHpop, oHpush, mTru, mStar, mCont, mMinVals, mPop0, mTIsNM, mTIsNE, mRev])
section
variable {m : Nat} {n : Nat → Str} {W : Nat → Way} {b : Int} {last : Str → Option Int}
/-! a ring whose last way is laid when a call is on its way -/
theorem pk_none {b β v : Int} (hv : v = 0) : PairOk b β none none 0 v := ⟨fun h => h.elim, fun h => h.elim, fun _ _ => by omega⟩
theorem pk_near {b β x y v : Int} (h1 : x ≤ y + β) (h2 : y ≤ x + β) (hv : v = 0) : PairOk b β (some x) (some y) 0 v := ⟨fun h => by have := h.2; omega, fun h => by have := h.2; omega, fun _ _ => by omega⟩
theorem pk_past {b β x y v : Int} (h1 : x + β ≤ b) (h2 : y + β ≤ b) (hv : v = 0) : PairOk b β (some x) (some y) 0 v := ⟨fun h => by have := h.1; omega, fun h => by have := h.1; omega, fun _ _ => by omega⟩
theorem pk_goes {b β x v : Int} (h1 : b < x + β) (hv : v = 1) : PairOk b β (some x) none 0 v := ⟨fun h => h.elim, fun h => by omega, fun _ g => absurd h1 g⟩
theorem pk_late {b β y v : Int} (h1 : y + β ≤ b) (hv : v = 0) : PairOk b β none (some y) 0 v := ⟨fun h => by have h : b < y + β := h; omega, fun h => h.elim, fun _ _ => by omega⟩
/-- when the call comes to the k-th caller, and the picture's beat, in each of the four cases -/
def cmI (a : Int) (m way k : Nat) : Int := if way = 3 then 1 else if way = 1 then min (a * (k : Int)) (a * ((m - 1 - k : Nat) : Int)) else a * (k : Int)
def nowI (a R : Int) (m way : Nat) : Int := if way = 3 then 0 else if way = 2 then a * ((m - 1 : Nat) : Int) + 2 * R else R - 1
def lsI (a R : Int) (m way k : Nat) : Option Int := if cmI a m way k ≤ nowI a R m way then some (cmI a m way k) else none
def vK (a R : Int) (m way k : Nat) : Int := if way = 0 ∧ k + 1 < m ∧ a * (k : Int) ≤ R - 1 ∧ R - 1 < a * (k : Int) + a then 1 else 0
theorem kindled_pair {a R : Int} {way k : Nat} (a1 : 1 ≤ a) (a3 : a ≤ 3) (m4 : 4 ≤ m) (m6 : m ≤ 6) (r1 : 2 * a + 1 ≤ R) (r2 : R ≤ a * ((m - 1 : Nat) : Int)) (hw : way < 4) (hk : k < m) : PairOk (nowI a R m way) (if k + 1 = m then 1 else a) (lsI a R m way k) (lsI a R m way ((k + 1) % m)) 0 (vK a R m way k) := by
  have ha : a = 1 ∨ a = 2 ∨ a = 3 := by omega
  have hw : way = 0 ∨ way = 1 ∨ way = 2 ∨ way = 3 := by omega
  by_cases e : k + 1 = m
  · have e0 : (k + 1) % m = 0 := by rw [e, Nat.mod_self]
    rw [e0, if_pos e]
    have v0 : vK a R m way k = 0 := by unfold vK; rw [if_neg (by omega)]
    rw [v0]
    unfold lsI
    rcases hw with rfl | rfl | rfl | rfl
    · have c1 : cmI a m 0 k = a * k := rfl
      have c0 : cmI a m 0 0 = 0 := by show a * ((0 : Nat) : Int) = 0; simp
      have n0 : nowI a R m 0 = R - 1 := rfl
      have ek : k = m - 1 := by omega
      rw [c1, c0, n0, if_neg (by rw [ek]; omega), if_pos (by omega)]
      exact pk_late (by omega) rfl
    · have c1 : cmI a m 1 k = min (a * (k : Int)) (a * ((m - 1 - k : Nat) : Int)) := rfl
      have c0 : cmI a m 1 0 = min (a * ((0 : Nat) : Int)) (a * ((m - 1 : Nat) : Int)) := rfl
      have n0 : nowI a R m 1 = R - 1 := rfl
      rw [c1, c0, n0]
      have : min (a * (k : Int)) (a * ((m - 1 - k : Nat) : Int)) = 0 := by
        rcases ha with rfl | rfl | rfl <;> omega
      have h2 : min (a * ((0 : Nat) : Int)) (a * ((m - 1 : Nat) : Int)) = 0 := by
        rcases ha with rfl | rfl | rfl <;> omega
      rw [this, h2, if_pos (by omega)]
      exact pk_near (by omega) (by omega) rfl
    · have c1 : cmI a m 2 k = a * k := rfl
      have c0 : cmI a m 2 0 = 0 := by show a * ((0 : Nat) : Int) = 0; simp
      have n0 : nowI a R m 2 = a * ((m - 1 : Nat) : Int) + 2 * R := rfl
      have ek : k = m - 1 := by omega
      rw [c1, c0, n0, ek]
      rw [if_pos (by omega), if_pos (by rcases ha with rfl | rfl | rfl <;> omega)]
      exact pk_past (by omega) (by rcases ha with rfl | rfl | rfl <;> omega) rfl
    · exact pk_none rfl
  · have e0 : (k + 1) % m = k + 1 := Nat.mod_eq_of_lt (by omega)
    rw [e0, if_neg e]
    unfold lsI
    rcases hw with rfl | rfl | rfl | rfl
    · have c1 : cmI a m 0 k = a * (k : Int) := rfl
      have c0 : cmI a m 0 (k + 1) = a * (k : Int) + a := by show a * ((k + 1 : Nat) : Int) = _; rw [Int.natCast_add, Int.mul_add]; simp
      have n0 : nowI a R m 0 = R - 1 := rfl
      rw [c1, c0, n0]
      unfold vK
      by_cases g1 : a * (k : Int) ≤ R - 1
      · rw [if_pos g1]
        by_cases g2 : a * (k : Int) + a ≤ R - 1
        · rw [if_pos g2]
          exact pk_near (by omega) (by omega) (if_neg (by omega))
        · rw [if_neg g2]
          exact pk_goes (by omega) (if_pos ⟨rfl, by omega, by omega, by omega⟩)
      · rw [if_neg g1, if_neg (by omega)]
        exact pk_none (if_neg (by omega))
    · have c1 : cmI a m 1 k = min (a * (k : Int)) (a * ((m - 1 - k : Nat) : Int)) := rfl
      have c0 : cmI a m 1 (k + 1) = min (a * ((k + 1 : Nat) : Int)) (a * ((m - 1 - (k + 1) : Nat) : Int)) := rfl
      have n0 : nowI a R m 1 = R - 1 := rfl
      rw [c1, c0, n0]
      rw [if_pos (by rcases ha with rfl | rfl | rfl <;> omega), if_pos (by rcases ha with rfl | rfl | rfl <;> omega)]
      exact pk_near (by rcases ha with rfl | rfl | rfl <;> omega) (by rcases ha with rfl | rfl | rfl <;> omega) (if_neg (by omega))
    · have c1 : cmI a m 2 k = a * (k : Int) := rfl
      have c0 : cmI a m 2 (k + 1) = a * (k : Int) + a := by show a * ((k + 1 : Nat) : Int) = _; rw [Int.natCast_add, Int.mul_add]; simp
      have n0 : nowI a R m 2 = a * ((m - 1 : Nat) : Int) + 2 * R := rfl
      rw [c1, c0, n0]
      rw [if_pos (by rcases ha with rfl | rfl | rfl <;> omega), if_pos (by rcases ha with rfl | rfl | rfl <;> omega)]
      exact pk_near (by omega) (by omega) (if_neg (by omega))
    · exact pk_none (if_neg (by omega))
theorem kindled_wind {a R : Int} {way : Nat} (m4 : 4 ≤ m) (r1 : 1 ≤ R) (r2 : R ≤ a * ((m - 1 : Nat) : Int)) (h : ∀ k, k < m → leanF b last (n k) (W k) = vK a R m way k) : windI b last (arcL m n W 0 m) = if way = 0 then 1 else 0 := by
  rw [wind_up m (Nat.le_refl _)]
  have pre : ∀ j : Nat, j ≤ m - 1 → upL b last n W j = if way = 0 ∧ R - 1 < a * (j : Int) then 1 else 0 := fun j => by
    induction j with
    | zero =>
      intro _
      rw [if_neg (by simp; omega)]
      rfl
    | succ j ih =>
      intro hj
      show upL b last n W j + leanF b last (n j) (W j) = _
      rw [ih (by omega), h j (by omega)]
      have e : a * ((j + 1 : Nat) : Int) = a * (j : Int) + a := by rw [Int.natCast_add, Int.mul_add]; simp
      unfold vK
      rw [e]
      by_cases w0 : way = 0
      · by_cases c1 : R - 1 < a * (j : Int)
        · have a0 : 0 ≤ a := by
            apply Decidable.byContradiction
            intro hn
            have : a * ((m - 1 : Nat) : Int) ≤ 0 := Int.mul_nonpos_of_nonpos_of_nonneg (by omega) (by omega)
            omega
          rw [if_pos ⟨w0, c1⟩, if_neg (by omega), if_pos ⟨w0, by omega⟩]; rfl
        · by_cases c2 : R - 1 < a * (j : Int) + a
          · rw [if_neg (by omega), if_pos ⟨w0, by omega, by omega, c2⟩, if_pos ⟨w0, c2⟩]; rfl
          · rw [if_neg (by omega), if_neg (by omega), if_neg (by omega)]; rfl
      · rw [if_neg (by omega), if_neg (by omega), if_neg (by omega)]; rfl
  obtain ⟨j, ej⟩ : ∃ j, m = j + 1 := ⟨m - 1, by omega⟩
  have v0 : vK a R m way j = 0 := by unfold vK; rw [if_neg (by omega)]
  have e := h j (by omega)
  rw [v0] at e
  have p := pre j (by omega)
  have : upL b last n W m = upL b last n W j + leanF b last (n j) (W j) := by rw [ej]; rfl
  rw [this, p, e]
  by_cases w0 : way = 0
  · rw [if_pos ⟨w0, by rw [ej] at r2; simp only [Nat.add_sub_cancel] at r2; omega⟩, if_pos w0]; rfl
  · rw [if_neg (by omega), if_neg w0]; rfl
/-! the beats of its ways -/
def blK (a : Int) (m : Nat) : List Int := List.replicate (m - 1) a ++ [1]
theorem blK_len {a : Int} (h : 1 ≤ m) : (blK a m).length = m := by unfold blK; rw [List.length_append, List.length_replicate, List.length_singleton]; omega
theorem blK_data {a : Int} : (List.replicate (m - 1) [PyData.int a]).flatten ++ [.int 1] = (blK a m).map PyData.int := by
  unfold blK
  rw [List.map_append, List.map_replicate, List.flatten_replicate_singleton]
  rfl
theorem sIx_m1 {N d : Nat} : HT.sIx N d (some (-1)) = N - 1 := by
  show (if (-1 : Int) < 0 then ((-1) + (N : Int)).toNat else min (-1 : Int).toNat N) = _
  rw [if_pos (by omega)]
  omega
theorem cut_m1 {α : Type} {xs : List α} (h : 1 ≤ xs.length) : cutL xs none (some (-1)) = xs.take (xs.length - 1) := by
  unfold cutL
  rw [HT.sIx_none, sIx_m1]
  simp
theorem cut_k1 {α : Type} {xs : List α} {k : Nat} (h : k + 1 ≤ xs.length) : cutL xs (some (k : Int)) (some (-1)) = (xs.drop k).take (xs.length - 1 - k) := by
  unfold cutL
  rw [show HT.sIx xs.length 0 (some (k : Int)) = min k xs.length from HT.sIx_nat xs.length _ k, sIx_m1, Nat.min_eq_left (by omega)]
theorem rep_sum {a : Int} : ∀ j : Nat, (List.replicate j a).sum = a * (j : Int)
  | 0 => by simp
  | j + 1 => by
    rw [List.replicate_succ, List.sum_cons, rep_sum j, Int.natCast_add, Int.mul_add]
    simp
    omega
theorem blK_take {a : Int} {k : Nat} (h : k + 1 ≤ m) : ((blK a m).take k).sum = a * (k : Int) := by
  unfold blK
  rw [List.take_append_of_le_length (by rw [List.length_replicate]; omega), List.take_replicate, Nat.min_eq_left (by omega), rep_sum]
theorem blK_all {a : Int} (h : 1 ≤ m) : (cutL (blK a m) none (some (-1))).sum = a * ((m - 1 : Nat) : Int) := by
  rw [cut_m1 (by rw [blK_len h]; exact h), blK_len h, blK_take (by omega)]
theorem blK_mid {a : Int} {k : Nat} (h : k + 1 ≤ m) : (cutL (blK a m) (some (k : Int)) (some (-1))).sum = a * ((m - 1 - k : Nat) : Int) := by
  rw [cut_k1 (by rw [blK_len (by omega)]; exact h), blK_len (by omega)]
  unfold blK
  rw [List.drop_append_of_le_length (by rw [List.length_replicate]; omega), List.take_append_of_le_length (by rw [List.length_drop, List.length_replicate]; omega), List.drop_replicate, List.take_replicate, rep_sum]
  congr 2
  omega
def btK (a : Int) (m k : Nat) : Int := if k + 1 = m then 1 else a
theorem blK_at {a : Int} {k : Nat} (h : k < m) : atI ((blK a m).map PyData.int) (k : Int) = some (.int (btK a m k)) := by
  refine atI_nat ?_
  rw [List.getElem?_map]
  unfold blK btK
  split
  · rename_i e
    rw [List.getElem?_append_right (by rw [List.length_replicate]; omega), List.length_replicate, show k - (m - 1) = 0 by omega]
    rfl
  · rw [List.getElem?_append_left (by rw [List.length_replicate]; omega), List.getElem?_replicate, if_pos (by omega)]
    rfl
theorem at_way {c0 c1 c2 c3 : Int} {way : Nat} (h : way < 4) : atI [PyData.int c0, .int c1, .int c2, .int c3] (way : Int) = some (PyData.int (if way = 3 then c3 else if way = 2 then c2 else if way = 1 then c1 else c0)) := by
  have hw : way = 0 ∨ way = 1 ∨ way = 2 ∨ way = 3 := by omega
  rcases hw with rfl | rfl | rfl | rfl <;> rfl
theorem cm_way {a c : Int} {way k : Nat} (h : c = min (a * (k : Int)) (a * ((m - 1 - k : Nat) : Int))) : (if way = 3 then (1 : Int) else if way = 2 then a * (k : Int) else if way = 1 then c else a * (k : Int)) = cmI a m way k := by
  unfold cmI
  by_cases h3 : way = 3
  · rw [if_pos h3, if_pos h3]
  · rw [if_neg h3, if_neg h3]
    by_cases h2 : way = 2
    · rw [if_pos h2, if_neg (by omega)]
    · rw [if_neg h2]
      by_cases h1 : way = 1
      · rw [if_pos h1, if_pos h1, h]
      · rw [if_neg h1, if_neg h1]
theorem now_way {a R : Int} {way : Nat} : (if way = 3 then (0 : Int) else if way = 2 then a * ((m - 1 : Nat) : Int) + 2 * R else if way = 1 then R - 1 else R - 1) = nowI a R m way := by
  unfold nowI
  by_cases h3 : way = 3
  · rw [if_pos h3, if_pos h3]
  · rw [if_neg h3, if_neg h3]
    by_cases h2 : way = 2
    · rw [if_pos h2, if_pos h2]
    · rw [if_neg h2, if_neg h2, ite_self]
theorem kv_new {f : Nat → Str} {j m : Nat} (inj : ∀ a b, a < m → b < m → f a = f b → a = b) (hj : j < m) : f j ∉ (List.range j).map f := fun h => by
  obtain ⟨k, hk, e⟩ := List.mem_map.mp h
  have hk := List.mem_range.mp hk
  have := inj _ _ (by omega) hj e
  omega
theorem put_lastB {f : Nat → Str} {j m : Nat} {last : Str → Option Int} (inj : ∀ a b, a < m → b < m → f a = f b → a = b) (hj : j < m) : putA (lastKV ((List.range j).map f) last) (.inr (f j)) (.dat (lastD (last (f j)))) = lastKV ((List.range (j + 1)).map f) last := by
  rw [putA_new (by
    unfold lastKV
    rw [List.map_map, List.map_map]
    intro h
    obtain ⟨k, hk, e⟩ := List.mem_map.mp h
    exact kv_new inj hj (List.mem_map.mpr ⟨k, hk, Sum.inr.inj e⟩))]
  unfold lastKV
  rw [List.range_succ, List.map_append, List.map_append]
  rfl
theorem plain_i {v : Int} (h : v.natAbs ≤ 1000) : Ok 3 1000000 5 (.int v) := (⟨small_int h, by simp [sz], by simp [PyData.depth]⟩ : Ok 0 1 0 (.int v)).le (by omega) (by omega) (by omega)
/-! how a way leans, by the order of its ends -/
theorem lo_lt {a b : Str} (ne : a ≠ b) : a.cps < b.cps ↔ a = loS a b := by
  unfold loS
  constructor
  · intro h
    have h : a.cps.toList < b.cps.toList := h
    have : strLe a b := List.le_of_lt h
    rw [if_pos (le_sortedS (by simp [this]))]
  · intro h
    split at h
    · rename_i c
      have le : strLe a b := by have := sortedS_le c; simpa using this
      show a.cps.toList < b.cps.toList
      apply Decidable.byContradiction
      intro hn
      exact ne (strLe_anti le (List.not_lt.mp hn))
    · exact absurd h ne
theorem lean_lo {nm : Nat → Str} {bt : Nat → Int} {k : Nat} {v : Int} (ne : n k ≠ n ((k + 1) % m)) (h : leanF b last (n k) (ringW n nm bt m k) = v) : leanI b last (ringW n nm bt m k) = if (n k).cps < (n ((k + 1) % m)).cps then v else -v := by
  unfold leanF at h
  have e : (n k = (ringW n nm bt m k).2.1) ↔ (n k).cps < (n ((k + 1) % m)).cps := (lo_lt ne).symm
  by_cases c : (n k).cps < (n ((k + 1) % m)).cps
  · rw [if_pos (e.mpr c)] at h
    rw [if_pos c]
    exact h
  · rw [if_neg (fun z => c (e.mp z))] at h
    rw [if_neg c]
    omega
end
end K1


set_option maxHeartbeats 4000000
namespace K1
open PySem PySem.Spec PyProof.Rows L2 RZ DL
local macro_rules | `(tactic| walk_at "dl") => `(tactic| simp [and_assoc, mRet, mAnd, mOr, mCall, mCons, mVar, mCls, mNil, mC, oIsi, oIsi2, mNot, startD, mSeq, mIfS, mTOr, mTAnd, mTNot, mTest, mChain, mNext, oA1, oA2, oIB, oII, oII0, mOp, mUn, mAsg, mgName, mgTup, mgCons_c, mgNil_n, zipAs_l, zipAs_t, oSl_l, oSl_t, oSl_s, oSl_r, mPart, mSl, mIf, wipeD, oSign, oSS, oLen, LenD_s, LenD_l, LenD_t, LenD_m, miZ, miS, miT, miL, miE, miR, oEq, oNe, eqD_i, eqD_b, eqD_s, oInT, oIx, ixD_l, ixD_t, ixD_s, ixD_m, ix0, ix1, ix2, ix3, oAbs, oInt, oMax, oMin, mPar, mPar3, mTup, mLst, mLstM, asD, mExpr, itemsD_l, itemsD_t, oNeg, mgSub, mset_same, mIsN, mDrp, mTIsN, oEqW, eqW_n, eqW_b, eqW_i, eqW_s, non_n, non_b, non_i, non_s, non_l, non_t, miR2, mDNew, mDGet, mDPut, mDisp, mPairs, kD_s, kD_i, isStr, isTup, isLst, isBool, DL.isInt, mAppend, mDPop, oNeE, miM, DL.HoldL, mDIn, mDictZip, oRepU, mListZip, oDictP, mCallP, pick, oNotB, mExtend, oSortA, oSortAM, mTupM, oIxT, mgTupC, mCallB, miD, miC, mGh, miMix, Sk.dat, mUpdate, mItems, oDictD, oListM, oListC, oRepL, oSortT, mVals, mDGetT, mDInT, mDPutT, mDGet2T, mLockE, mLockS, mNever, oSumI, oMaxI, mgLstU, oHpop, oHpush, mTru, mStar, mCont, mMinVals, mPop0, mTIsNM, mTIsNE, mRev])
section
variable {P : Program} {w : World} {K : PySem.W.Frag} {mg : Str → Option Value} {base : Heap}
def d_law_told_right : DOs := fun as μ Q => ∃ r ns qs b last m n W due, as = [.dat (planD r ns qs), .dat (picD b (ns.map last)), .dat (.list ((arcL m n W 0 m).map hopD)), .dat (.int due)] ∧ PlanNm ns qs ∧ RingP qs m n W ∧ m ≤ 8 ∧ (∀ k, k < m → n k ∈ ns) ∧ windI b last (arcL m n W 0 m) = due ∧ 0 ≤ due ∧ due ≤ 8 ∧ (∀ μ', (∀ b, μ b ≠ none → μ' b = μ b) → Q (.dat (.bool true)) μ')
theorem ok_law_told_right (T : Txt K mg) (p_law_same : Prm P w K mg base 8 "_law_same" 2 (d_law_same 5)) (p_heights : Prm P w K mg base 6 "heights" 3 d_heightsN) (p_winding : Prm P w K mg base 6 "winding" 3 d_windingN) (p_wind : Prm P w K mg base 5 "wind" 3 d_wind) {f : Addr} {fd : FuncData} (D : DefAt K mg "_law_told_right" s_law_told_right ["plan", "picture", "ring", "due"] f fd) : Prm P w K mg base 9 "_law_told_right" 4 d_law_told_right := by
  refine prm_of D sc_law_told_right rfl (fun as μ Q ⟨r, ns, qs, b, last, m, n, W, due, e, _⟩ => by rw [e]; rfl) fun cdv A out s H hr hg => ⟨_, _,
(db_cons (ds_setE (i := 4) sc_law_told_right.nd rfl (by first | exact Or.inl rfl | exact Or.inr rfl) (de_rev (de_lc (own := [("k", 7)]) rfl sc_law_told_right.nd (di_rangeE (by rfl) T.n_range (da_cons (de_callB call_len (so_A1 so_len) (by rfl) T.n_len (by decide +kernel) (da_cons (de_var (pv 2)) da_nil)) da_nil)) (blkOk_by (N := N_law_told_right) (sc := defScope s_law_told_right) (by decide +kernel)) (fun _ _ _ _ _ => (dg_name (pg_name (i := 7) sc_law_told_right.nd rfl (by first | exact Or.inl rfl | exact Or.inr rfl)) (by decide))) (fun _ _ _ _ _ => dts_nil) (fun _ _ _ _ _ => (de_tup (da_cons (de_ixL (K := K) (de_ixL (K := K) (de_var (pv 2)) (de_op op_mod so_II (de_op op_add so_II0 (de_var (pv 7)) de_int) (de_callBC (K := K) (rr := DL.rLen) rfl call_len (so_A1 so_len) (by rfl) T.n_len (by decide +kernel) (da_cons (de_var (pv 2)) da_nil))) (fun _ _ => rfl)) de_int (fun _ _ => rfl)) (da_cons (de_ixL (K := K) (de_ixL (K := K) (de_var (pv 2)) (de_var (pv 7)) (fun _ _ => rfl)) de_int (fun _ _ => rfl)) da_nil))))) (de_un un_neg so_neg de_int)))
    (db_cons (ds_if (dt_not (dt_val (de_call p_law_same (hr.mono (by omega)) hg (by rfl) (da_cons (de_lst (da_cons (de_call p_wind (hr.mono (by omega)) hg (by rfl) (da_cons (de_var (pv 0)) (da_cons (de_var (pv 1)) (da_cons (de_var (pv 2)) da_nil)))) (da_cons (de_call p_wind (hr.mono (by omega)) hg (by rfl) (da_cons (de_var (pv 0)) (da_cons (de_var (pv 1)) (da_cons (de_var (pv 4)) da_nil)))) da_nil))) (da_cons (de_lst (da_cons (de_var (pv 3)) (da_cons (de_op op_sub so_II0 de_int (de_var (pv 3))) da_nil))) da_nil))))) (db_one (ds_ret de_bl)) db_nil)
    (db_cons (ds_parE (i := 5) (j := 6) rfl sc_law_told_right.nd rfl rfl (by decide) rfl rfl (da_cons (de_call p_winding (hr.mono (by omega)) hg (by rfl) (da_cons (de_var (pv 0)) (da_cons (de_var (pv 1)) (da_cons (de_ix (de_ix (de_var (pv 2)) de_int (fun _ _ => rfl)) de_int (fun _ _ => rfl)) da_nil)))) (da_cons (de_ix (de_ix (de_var (pv 2)) (de_un un_neg so_neg de_int) (fun _ _ => rfl)) de_int (fun _ _ => rfl)) da_nil)) rfl)
    (db_cons (ds_if (DW.dt (dw_or (dt_cmp op_ne so_ne (de_isN (de_call p_heights (hr.mono (by omega)) hg (by rfl) (da_cons (de_var (pv 0)) (da_cons (de_var (pv 1)) (da_cons (de_var (pv 6)) da_nil))))) (de_cmp op_ne so_ne (de_var (pv 3)) de_int)) (dw_or1 (dt_cmp op_ne so_ne (de_isN (de_var (pv 5))) (de_cmp op_eq so_eq (de_var (pv 3)) de_int))))) (db_one (ds_ret de_bl)) db_nil)
    (db_one (ds_ret (de_or (de_isN (de_var (pv 5))) (de_one (de_and (de_cmp (op_inT (hu65 hr)) so_inT (de_callB (cr_sortA (hu64 hr)) (so_A1 so_sortA) (by rfl) T.n_sorted (by decide +kernel) (da_cons (de_var (pv 5)) da_nil)) (de_tup (da_cons (de_callB (cr_sortA (hu64 hr)) (so_A1 so_sortA) (by rfl) T.n_sorted (by decide +kernel) (da_cons (de_var (pv 2)) da_nil)) (da_cons (de_callB (cr_sortA (hu64 hr)) (so_A1 so_sortA) (by rfl) T.n_sorted (by decide +kernel) (da_cons (de_var (pv 4)) da_nil)) da_nil)))) (de_one (de_cmp op_eq so_eq (de_call p_wind (hr.mono (by omega)) hg (by rfl) (da_cons (de_var (pv 0)) (da_cons (de_var (pv 1)) (da_cons (de_var (pv 5)) da_nil)))) (de_callB call_abs (so_A1 so_abs) (by rfl) T.n_abs (by decide +kernel) (da_cons (de_var (pv 3)) da_nil)))))))))))))
    , fun as μ Q ⟨r, ns, qs, b, last, m, n, W, due, e, pn, R, m8, hns, hw, hd, hd8, q⟩ => ?_⟩
  subst e
  have hsl : sizeLine = 16777216 := sizeLine_eq
  walk_at "dl"
  have m3 := R.m3
  have ne : ∀ q ∈ qs, q.2.1 ≠ q.2.2.1 := fun q hq => (pn.po.ends q hq).2.2.1
  have wb : windI b last (turnL m n W) = -due := by rw [R.turned ne, hw]
  have r0 := R.ring (s := 0) (by omega)
  have g0 := r0.gone.all pn.po (hns 0 (by omega))
  have rb := R.back.ring (s := 0) (by omega)
  have n0 : backN m n 0 = n 0 := by unfold backN; rw [Nat.sub_zero, Nat.mod_self]
  have gb := rb.gone.all pn.po (by rw [n0]; exact hns 0 (by omega))
  rw [← turn_back] at gb
  have al : (arcL m n W 0 m).length = m := arc_len 0 m
  have tl : (turnL m n W).length = m := by rw [turn_back, arc_len]
  have at_ : ∀ k, k < m → atI ((arcL m n W 0 m).map hopD) (k : Int) = some (hopD (n k, W k)) := fun k hk => atI_nat (by
    unfold arcL
    rw [List.map_map, List.getElem?_map, List.getElem?_range hk]
    show some (hopD (n ((0 + k) % m), W ((0 + k) % m))) = _
    rw [Nat.zero_add, Nat.mod_eq_of_lt hk])
  have okp : ∀ ps : List (Str × Way), (∀ p ∈ ps, p.1 ∈ ns ∧ p.2 ∈ qs ∧ atB p.1 p.2 = true) → ∀ p ∈ ps.map (fun p : Str × Way => (p.1, p.2.1)), nmOk p.1 ∧ nmOk p.2 := fun ps h p hp => by
    obtain ⟨q, hq, rfl⟩ := List.mem_map.mp hp
    exact ⟨pn.nok _ (h q hq).1, pn.wok _ (h q hq).2.1⟩
  have hopT : ∀ ps : List (Str × Way), ps.map hopD = (ps.map fun p => (p.1, p.2.1)).map prT := fun ps => by rw [List.map_map]; rfl
  have ix_0 : ∀ (p : Str × Way) ν, ixD (.dat (hopD p)) ν 0 (.dat (.str p.1)) := fun p ν => by unfold hopD; walk_at "dl"
  have ix_1 : ∀ (p : Str × Way) ν, ixD (.dat (hopD p)) ν 1 (.dat (.str p.2.1)) := fun p ν => by unfold hopD; walk_at "dl"
  have atl : atI ((arcL m n W 0 m).map hopD) (-1) = some (hopD (n ((0 + (m - 1)) % m), W ((0 + (m - 1)) % m))) := by
    unfold arcL
    rw [List.map_map]
    exact atI_lastN (g := hopD ∘ fun i => (n ((0 + i) % m), W ((0 + i) % m))) (by omega)
  have lm := mod_lt' m3 (0 + (m - 1))
  refine lc_T (μ1 := μ) (List.range m) (fun k => .int (k : Nat)) (fun _ => true) (fun k => hopD (n ((k + 1) % m), W k)) (fun Z z => ?_) (by rw [List.length_range]; omega) (fun k hk ν R1 R0 fr r1 r0 => ?_) ?_
  · walk_at "dl"
    rw [al]
    rw [← rangeD_nat] at z
    exact ⟨by omega, z⟩
  · have hk := List.mem_range.mp hk
    walk_at "dl"
    have hm := mod_lt' m3 (k + 1)
    refine ⟨by omega, .dat (hopD (n ((k + 1) % m), W ((k + 1) % m))), ⟨_, rfl, by rw [al, show ((k : Int) + 1) % (m : Int) = (((k + 1) % m : Nat) : Int) by rw [Int.natCast_emod]; rfl]; exact at_ _ hm⟩, _, ix_0 _ _, _, ⟨_, rfl, at_ k hk⟩, _, ix_1 _ _, _, rfl, by show 2 ≤ sizeLine; omega, r1 rfl⟩
  · rw [List.filter_eq_self.mpr fun _ _ => rfl]
    refine ⟨_, rfl, r, ns, qs, b, last, arcL m n W 0 m, rfl, pn, by omega, fun p hp => (g0.1 p hp).2.1, ?_⟩
    have et : ((List.range m).map fun k => hopD (n ((k + 1) % m), W k)).reverse = (turnL m n W).map hopD := by unfold turnL; rw [List.map_reverse, List.map_map]; rfl
    rw [et]
    refine ⟨r, ns, qs, b, last, turnL m n W, rfl, pn, by omega, fun p hp => (gb.1 p hp).2.1, ?_⟩
    rw [hw, wb]
    refine ⟨_, rfl, by show 2 ≤ sizeLine; omega, by omega, .list [.int due, .int (-due)], rfl, by omega, ?_, .inr ⟨rfl, ?_⟩⟩
    · exact (two_ints (by omega) (by omega)).le (by omega) (by omega) (by omega)
    refine ⟨_, ⟨_, rfl, at_ 0 (by omega)⟩, .dat (.str (n 0)), ix_0 _ _, r, ns, qs, b, last, n 0, rfl, pn, hns 0 (by omega), fun a ps μ' ha la hr hpos hx => ?_, fun hno μ' hx => ?_⟩
    · have gp := hr.gone.all pn.po ha
      rcases R.rings hr with p | p
      · have e : windI b last ps = due := by rw [wind_perm p, hw]
        have d0 : due ≠ 0 := by omega
        refine ⟨_, ⟨_, rfl, atl⟩, _, ix_0 _ _, r, ns, qs, b, last, _, rfl, pn, hns _ lm, fun Φ ys mm μ2 fit _ _ => absurd fit (R.none (by rw [hw]; exact d0) lm Φ), fun _ μ2 x2 => ?_⟩
        refine ⟨_, rfl, .inl ⟨d0, .inr ⟨rfl, _, rfl, .inl ⟨d0, .inr ⟨rfl, _, rfl, ?_⟩⟩⟩⟩⟩
        rw [if_neg (show ¬ DL.isNon (.list (ps.map hopD)) = true by simp [DL.isNon])]
        have pf : (ps.map fun p : Str × Way => (p.1, p.2.1)).Perm ((arcL m n W 0 m).map fun p => (p.1, p.2.1)) := p.map _
        have s1 := prT_sortable (ps.map fun p : Str × Way => (p.1, p.2.1))
        have s2 := prT_sortable ((arcL m n W 0 m).map fun p : Str × Way => (p.1, p.2.1))
        have s3 := prT_sortable ((turnL m n W).map fun p : Str × Way => (p.1, p.2.1))
        have f1 := srt_fine (okp ps gp.1)
        have f2 := srt_fine (okp _ g0.1)
        have f3 := srt_fine (okp _ gb.1)
        have h1 : SeqAt.shaped (.list (srtD ((ps.map fun p : Str × Way => (p.1, p.2.1)).map prT))) = true := fine_shaped f1.1 (by omega)
        refine ⟨_, .inl (by rw [hopT]), s1.1, s1.2.1, s1.2.2, _, .inl (by rw [hopT]), s2.1, s2.2.1, s2.2.2, _, .inl (by rw [hopT]), s3.1, s3.2.1, s3.2.2, by show 2 ≤ sizeLine; omega, h1, ?_, ?_⟩
        · refine fine_shaped (n := 0) (fineAll_iff.mpr fun d hd => ?_) ?_
          · simp only [List.mem_cons, List.not_mem_nil, or_false] at hd
            rcases hd with rfl | rfl
            · exact f2.1
            · exact f3.1
          · simp only [PyData.depth, PyData.depthAll] at f2 f3 ⊢
            omega
        · rw [if_pos (by
            unfold memD
            rw [List.any_cons, ← srt_prT pf, SeqAt.eqv_refl _ (SeqAt.canLay_of_shaped h1), Bool.true_or])]
          refine ⟨r, ns, qs, b, last, ps, rfl, pn, by have := p.length_eq; omega, fun q hq => (gp.1 q hq).2.1, _, rfl, .inr ⟨?_, q μ2 ?_⟩⟩
          · rw [e, if_neg (by omega), eqD_i]
            congr 1
            exact decide_eq_true rfl
          · exact fun b hb => by rw [x2 b (by rw [hx b hb]; exact hb), hx b hb]
      · have e : windI b last ps = -due := by rw [wind_perm p, ← turn_back, wb]
        omega
    · have d0 : due = 0 := by
        obtain ⟨s, hs, hl⟩ := R.least
        have h1 := hno (n s) _ (R.lk (by omega) hs) (R.ring hs) hl
        rw [wind_perm (arc_perm (by omega)), hw] at h1
        omega
      refine ⟨_, ⟨_, rfl, atl⟩, _, ix_0 _ _, r, ns, qs, b, last, _, rfl, pn, hns _ lm, fun Φ ys mm μ2 fit po x2 => ?_, fun no μ2 x2 => ?_⟩
      · refine ⟨_, rfl, .inr ⟨d0, ?_⟩⟩
        refine .inr ⟨by simp [DL.isNon], _, rfl, .inr ⟨d0, .inr ⟨rfl, _, rfl, ?_⟩⟩⟩
        rw [if_pos (show DL.isNon PyData.none = true from rfl)]
        exact q μ2 fun b hb => by rw [x2 b (by rw [hx b hb]; exact hb), hx b hb]
      · obtain ⟨Φ, hΦ⟩ := R.fits ne (by rw [hw]; exact d0) (c := (n ((0 + (m - 1)) % m)))
        exact absurd hΦ (no Φ)
end
end K1


set_option maxHeartbeats 4000000
namespace K1
open PySem PySem.Spec PyProof.Rows L2 RZ DL
local macro_rules | `(tactic| walk_at "dl") => `(tactic| simp [and_assoc, mRet, mAnd, mOr, mCall, mCons, mVar, mCls, mNil, mC, oIsi, oIsi2, mNot, startD, mSeq, mIfS, mTOr, mTAnd, mTNot, mTest, mChain, mNext, oA1, oA2, oIB, oII, oII0, mOp, mUn, mAsg, mgName, mgTup, mgCons_c, mgNil_n, zipAs_l, zipAs_t, oSl_l, oSl_t, oSl_s, oSl_r, mPart, mSl, mIf, wipeD, oSign, oSS, oLen, LenD_s, LenD_l, LenD_t, LenD_m, miZ, miS, miT, miL, miE, miR, oEq, oNe, eqD_i, eqD_b, eqD_s, oInT, oIx, ixD_l, ixD_t, ixD_s, ixD_m, ix0, ix1, ix2, ix3, oAbs, oInt, oMax, oMin, mPar, mPar3, mTup, mLst, mLstM, asD, mExpr, itemsD_l, itemsD_t, oNeg, mgSub, mset_same, mIsN, mDrp, mTIsN, oEqW, eqW_n, eqW_b, eqW_i, eqW_s, non_n, non_b, non_i, non_s, non_l, non_t, miR2, mDNew, mDGet, mDPut, mDisp, mPairs, kD_s, kD_i, isStr, isTup, isLst, isBool, DL.isInt, mAppend, mDPop, oNeE, miM, DL.HoldL, mDIn, mDictZip, oRepU, mListZip, oDictP, mCallP, pick, oNotB, mExtend, oSortA, oSortAM, mTupM, oIxT, mgTupC, mCallB, miD, miC, mGh, miMix, Sk.dat, mUpdate, mItems, oDictD, oListM, oListC, oRepL, oSortT, mVals, mDGetT, mDInT, mDPutT, mDGet2T, mLockE, mLockS, mNever, oSumI, oMaxI, mgLstU, oHpop, oHpush, mTru, mStar, mCont, mMinVals, mPop0, mTIsNM, mTIsNE, mRev])
section
variable {P : Program} {w : World} {K : PySem.W.Frag} {mg : Str → Option Value} {base : Heap}
def d_law_waves_right : DOs := fun as μ Q => ∃ t n, as = [.mut t] ∧ TapeAt t n μ ∧ n ≤ 500000 ∧ ∀ μ', TapeAt t (n + 60) μ' → (∀ c, c ≠ t → μ c ≠ none → μ' c = μ c) → Q (.dat (.bool true)) μ'
theorem ok_law_waves_right (T : Txt K mg) (p_law_draw : Prm P w K mg base 1 "_law_draw" 2 d_law_draw) (p_law_names : Prm P w K mg base 2 "_law_names" 2 d_law_names) (p_law_same : Prm P w K mg base 8 "_law_same" 2 (d_law_same 5)) (p_lean : Prm P w K mg base 3 "lean" 3 d_lean) (p_law_told_right : Prm P w K mg base 9 "_law_told_right" 4 d_law_told_right) {f : Addr} {fd : FuncData} (D : DefAt K mg "_law_waves_right" s_law_waves_right ["tape"] f fd) : Prm P w K mg base 10 "_law_waves_right" 1 d_law_waves_right := by
  refine prm_of D sc_law_waves_right rfl (fun as μ Q ⟨t, n, e, _⟩ => by rw [e]; rfl) fun cdv A out s H hr hg => ⟨_, _,
(db_cons (ds_asg (vs := [1, 2, 3, 4]) (de_tup (da_cons (de_call p_law_names (hr.mono (by omega)) hg (by rfl) (da_cons (de_var (pv 0)) (da_cons de_int da_nil))) (da_cons (de_op op_add so_II0 de_int (de_call p_law_draw (hr.mono (by omega)) hg (by rfl) (da_cons (de_var (pv 0)) (da_cons de_int da_nil)))) (da_cons (de_op op_add so_II0 de_int (de_call p_law_draw (hr.mono (by omega)) hg (by rfl) (da_cons (de_var (pv 0)) (da_cons de_int da_nil)))) (da_cons (de_call p_law_draw (hr.mono (by omega)) hg (by rfl) (da_cons (de_var (pv 0)) (da_cons de_int da_nil))) da_nil))))) (dg_tup (K := K) (n := 4) rfl rfl (dgs_cons (dg_name (pg_name (i := 1) sc_law_waves_right.nd rfl (by first | exact Or.inl rfl | exact Or.inr rfl)) (by decide)) (dgs_cons (dg_name (pg_name (i := 2) sc_law_waves_right.nd rfl (by first | exact Or.inl rfl | exact Or.inr rfl)) (by decide)) (dgs_cons (dg_name (pg_name (i := 3) sc_law_waves_right.nd rfl (by first | exact Or.inl rfl | exact Or.inr rfl)) (by decide)) (dgs_cons (dg_name (pg_name (i := 4) sc_law_waves_right.nd rfl (by first | exact Or.inl rfl | exact Or.inr rfl)) (by decide)) dgs_nil))))))
    (db_cons (ds_asg (vs := [5, 6]) (de_tup (da_cons (de_op op_mul so_II de_int (de_var (pv 2))) (da_cons (de_op op_add so_II0 (de_var (pv 4)) (de_op op_mul so_II de_int (de_var (pv 3)))) da_nil))) (dg_tup (K := K) (n := 2) rfl rfl (dgs_cons (dg_name (pg_name (i := 5) sc_law_waves_right.nd rfl (by first | exact Or.inl rfl | exact Or.inr rfl)) (by decide)) (dgs_cons (dg_name (pg_name (i := 6) sc_law_waves_right.nd rfl (by first | exact Or.inl rfl | exact Or.inr rfl)) (by decide)) dgs_nil))))
    (db_cons (ds_setLc (i := 7) (own := [("k", 12)]) rfl sc_law_waves_right.nd rfl rfl (sw_true rfl rfl rfl (by decide +kernel)) (di_rangeE (by rfl) T.n_range (da_cons (de_var (pv 5)) da_nil)) (blkOk_by (N := N_law_waves_right) (sc := defScope s_law_waves_right) (by decide +kernel)) (fun _ _ _ _ _ => (dg_name (pg_name (i := 12) sc_law_waves_right.nd rfl (by first | exact Or.inl rfl | exact Or.inr rfl)) (by decide))) (fun _ _ _ _ _ => dts_nil) (fun _ _ _ _ _ => (de_tup (da_cons (de_ixL (K := K) (de_var (pv 1)) (de_var (pv 12)) (fun _ _ => rfl)) (da_cons (de_ixL (K := K) (de_var (pv 1)) (de_op op_add so_II0 de_int (de_var (pv 12))) (fun _ _ => rfl)) da_nil)))))
    (db_cons (ds_setLc (i := 8) (own := [("k", 12)]) rfl sc_law_waves_right.nd rfl rfl (sw_true rfl rfl rfl (by decide +kernel)) (di_rangeE (by rfl) T.n_range (da_cons (de_var (pv 5)) da_nil)) (blkOk_by (N := N_law_waves_right) (sc := defScope s_law_waves_right) (by decide +kernel)) (fun _ _ _ _ _ => (dg_name (pg_name (i := 12) sc_law_waves_right.nd rfl (by first | exact Or.inl rfl | exact Or.inr rfl)) (by decide))) (fun _ _ _ _ _ => dts_nil) (fun _ _ _ _ _ => (de_opC (K := K) (r := rCatA) rfl op_catA so_catT (de_opC (K := K) (r := rCatA) rfl op_catA so_catT (de_tup (da_cons (de_ixL (K := K) (de_var (pv 1)) (de_op op_add so_II0 de_int (de_var (pv 12))) (fun _ _ => rfl)) da_nil)) (de_callTyC (K := K) (rr := rTupOf) rfl call_tuple_of (so_A1 so_tuple) (by rfl) T.n_tuple (by decide +kernel) (da_cons (de_callBC (K := K) (rr := rSortedS) rfl cr_sortedS (so_A1 so_sortS) (by rfl) T.n_sorted (by decide +kernel) (da_cons (de_lst (da_cons (de_ixL (K := K) (de_var (pv 1)) (de_var (pv 12)) (fun _ _ => rfl)) (da_cons (de_ixL (K := K) (de_var (pv 1)) (de_op op_mod so_II (de_op op_add so_II0 (de_var (pv 12)) de_int) (de_var (pv 5))) (fun _ _ => rfl)) da_nil))) da_nil)) da_nil))) (de_tup (da_cons (de_var (pv 3)) da_nil)))))
    (db_cons (ds_setE (i := 9) sc_law_waves_right.nd rfl (by first | exact Or.inl rfl | exact Or.inr rfl) (de_tup (da_cons (de_op op_mul so_II de_int (de_var (pv 3))) (da_cons (de_callTy call_tuple_of (so_A1 so_tuple) (by rfl) T.n_tuple (by decide +kernel) (da_cons (de_callB cr_sortedS (so_A1 so_sortS) (by rfl) T.n_sorted (by decide +kernel) (da_cons (de_slice (de_var (pv 1)) dp_none (dp_some (de_var (pv 5)))) da_nil)) da_nil)) (da_cons (de_callTy call_tuple_of (so_A1 so_tuple) (by rfl) T.n_tuple (by decide +kernel) (da_cons (de_callB (cr_sortA (hu64 hr)) (so_A1 so_sortA) (by rfl) T.n_sorted (by decide +kernel) (da_cons (de_var (pv 8)) da_nil)) da_nil)) da_nil)))))
    (db_cons (ds_setE (i := 10) sc_law_waves_right.nd rfl (by first | exact Or.inl rfl | exact Or.inr rfl) (de_callTy (call_dictP rfl) (so_A1 so_dictP) (by rfl) T.n_dict (by decide +kernel) (da_cons (de_lc (own := [("k", 12)]) rfl sc_law_waves_right.nd (di_rangeE (by rfl) T.n_range (da_cons (de_var (pv 5)) da_nil)) (blkOk_by (N := N_law_waves_right) (sc := defScope s_law_waves_right) (by decide +kernel)) (fun _ _ _ _ _ => (dg_name (pg_name (i := 12) sc_law_waves_right.nd rfl (by first | exact Or.inl rfl | exact Or.inr rfl)) (by decide))) (fun _ _ _ _ _ => dts_nil) (fun _ _ _ _ _ => (de_tup (da_cons (de_ixL (K := K) (de_var (pv 1)) (de_var (pv 12)) (fun _ _ => rfl)) (da_cons (de_op op_sub so_II0 (de_var (pv 6)) (de_op op_mul so_II (de_op op_mod so_II (de_op op_sub so_II0 de_int (de_var (pv 12))) de_int) (de_var (pv 3)))) da_nil))))) da_nil)))
    (db_cons (ds_setE (i := 11) sc_law_waves_right.nd rfl (by first | exact Or.inl rfl | exact Or.inr rfl) (de_tup (da_cons (de_var (pv 6)) (da_cons (de_callTy call_tuple_of (so_A1 so_tuple) (by rfl) T.n_tuple (by decide +kernel) (da_cons (de_lc (own := [("name", 14)]) rfl sc_law_waves_right.nd (di_tup (de_ix (de_var (pv 9)) de_int (fun _ _ => rfl))) (blkOk_by (N := N_law_waves_right) (sc := defScope s_law_waves_right) (by decide +kernel)) (fun _ _ _ _ _ => (dg_name (pg_name (i := 14) sc_law_waves_right.nd rfl (by first | exact Or.inl rfl | exact Or.inr rfl)) (by decide))) (fun _ _ _ _ _ => dts_nil) (fun _ _ _ _ _ => (de_dget (hu_of hr) (de_var (pv 10)) (de_var (pv 14)) (fun _ _ => rfl)))) da_nil)) da_nil))))
    (db_cons (ds_for (vs := [12]) PassesOwn.never rfl (di_rangeE (by rfl) T.n_range (da_cons (de_var (pv 5)) da_nil)) (dg_name (pg_name (i := 12) sc_law_waves_right.nd rfl (by first | exact Or.inl rfl | exact Or.inr rfl)) (by decide)) (db_cons (ds_setE (i := 13) sc_law_waves_right.nd rfl (by first | exact Or.inl rfl | exact Or.inr rfl) (de_op op_mul so_II (de_callTy call_int1 (so_A1 so_int) (by rfl) T.n_int (by decide +kernel) (da_cons (de_cmp op_eq so_eq (de_op op_mod so_II (de_var (pv 12)) de_int) de_int) da_nil)) (de_if (dt_cmp op_lt_str so_SS (de_ix (de_var (pv 1)) (de_var (pv 12)) (fun _ _ => rfl)) (de_ix (de_var (pv 1)) (de_op op_mod so_II (de_op op_add so_II0 (de_var (pv 12)) de_int) (de_var (pv 5))) (fun _ _ => rfl))) de_int (de_un un_neg so_neg de_int))))
    (db_one (ds_if (dt_not (dt_val (de_call p_law_same (hr.mono (by omega)) hg (by rfl) (da_cons (de_call p_lean (hr.mono (by omega)) hg (by rfl) (da_cons (de_var (pv 9)) (da_cons (de_var (pv 11)) (da_cons (de_ix (de_var (pv 1)) (de_op op_add so_II0 de_int (de_var (pv 12))) (fun _ _ => rfl)) da_nil)))) (da_cons (de_var (pv 13)) da_nil))))) (db_one (ds_ret de_bl)) db_nil))))
    (db_one (ds_ret (de_call p_law_told_right (hr.mono (by omega)) hg (by rfl) (da_cons (de_var (pv 9)) (da_cons (de_var (pv 11)) (da_cons (de_var (pv 7)) (da_cons (de_var (pv 2)) da_nil)))))))))))))))
    , fun as μ Q ⟨t, n, e, ht, hn, q⟩ => ?_⟩
  subst e
  have hsl : sizeLine = 16777216 := sizeLine_eq
  walk_at "dl"
  refine ⟨t, n, 18, rfl, by omega, ht, by omega, fun ss μ1 h18 snd nok0 tp1 f1 => ?_⟩
  have nok : ∀ s ∈ ss, nmOk s := fun s hs => nok0 s hs
  refine ⟨t, 2, _, rfl, tp1, by omega, by omega, by omega, fun x μ2 x0 x1 tp2 f2 => ⟨x, rfl, ?_⟩⟩
  refine ⟨t, 6, _, rfl, tp2, by omega, by omega, by omega, fun y μ3 y0 y1 tp3 f3 => ⟨y, rfl, ?_⟩⟩
  refine ⟨t, 90, _, rfl, tp3, by omega, by omega, by omega, fun F μ4 F0 F1 tp4 f4 => ⟨_, rfl, by show 4 ≤ sizeLine; omega, rfl, ?_⟩⟩
  obtain ⟨w, ew, w12⟩ : ∃ w : Nat, 1 + x = (w : Int) ∧ (w = 1 ∨ w = 2) := ⟨(1 + x).toNat, by omega, by omega⟩
  obtain ⟨β, eβ, β1, β6⟩ : ∃ β : Int, 1 + y = β ∧ 1 ≤ β ∧ β ≤ 6 := ⟨1 + y, rfl, by omega, by omega⟩
  rw [ew, eβ]
  walk_at "dl"
  refine ⟨mulw (by omega) (by omega), mulw (by omega) (by omega), by omega, ?_⟩
  obtain ⟨m, em⟩ : ∃ m : Nat, m = 3 * w := ⟨_, rfl⟩
  rw [show (3 : Int) * (w : Int) = (m : Int) by omega]
  have m3 : 3 ≤ m := by omega
  have m8 : m ≤ 6 := by omega
  have inj : ∀ i j, i < m → j < m → sF ss i = sF ss j → i = j := fun i j hi hj e => sF_inj snd (by omega) (by omega) e
  have nx : ∀ k, k < m → sF ss k ≠ sF ss ((k + 1) % m) := fun k hk e => by
    have := inj _ _ hk (mod_lt' m3 _) e
    rw [mod_next m3 hk] at this
    split at this <;> omega
  refine lc_T (μ1 := μ4) (List.range m) (fun k => .int (k : Nat)) (fun _ => true) (fun k => .tuple [.str (sF ss k), .str (sF ss (8 + k))]) (fun Z z => by walk_at "dl"; rw [← rangeD_nat] at z; exact ⟨by omega, z⟩) (by rw [List.length_range]; omega) (fun k hk ν R1 R0 fr r1 r0 => ?_) ?_
  · have hk := List.mem_range.mp hk
    walk_at "dl"
    exact ⟨_, ⟨_, rfl, at_strF (by omega)⟩, _, ⟨_, rfl, at_strF (k := 8 + k) (by omega)⟩, _, rfl, by show 2 ≤ sizeLine; omega, r1 rfl⟩
  rw [List.filter_eq_self.mpr fun _ _ => rfl]
  refine lc_T (μ1 := μ4) (List.range m) (fun k => .int (k : Nat)) (fun _ => true) (fun k => rowD (ringW (sF ss) (fun k => sF ss (8 + k)) (fun _ => β) m k)) (fun Z z => by walk_at "dl"; rw [← rangeD_nat] at z; exact ⟨by omega, z⟩) (by rw [List.length_range]; omega) (fun k hk ν R1 R0 fr r1 r0 => ?_) ?_
  · have hk := List.mem_range.mp hk
    walk_at "dl"
    have hm := mod_lt' m3 (k + 1)
    refine ⟨_, ⟨_, rfl, at_strF (k := 8 + k) (by omega)⟩, _, rfl, by show 1 ≤ sizeLine; omega, _, ⟨_, rfl, at_strF (by omega)⟩, by omega, .dat (.str (sF ss ((k + 1) % m))), ⟨_, rfl, by rw [show ((k : Int) + 1) % (m : Int) = (((k + 1) % m : Nat) : Int) by rw [Int.natCast_emod]; rfl]; exact at_strF (by omega)⟩, _, rfl, by show 2 ≤ sizeLine; omega, [sF ss k, sF ss ((k + 1) % m)], rfl, by show 2 < 64; omega, fun zs zp zs' => ?_⟩
    rw [two_sorted (nx k hk) zp zs']
    exact .inl ⟨_, _, rfl, rfl, _, _, rfl, rfl, by show 1 + 2 ≤ sizeLine; omega, by omega, _, _, rfl, rfl, by show 3 + 1 ≤ sizeLine; omega, r1 rfl⟩
  rw [List.filter_eq_self.mpr fun _ _ => rfl]
  obtain ⟨rl, erl⟩ : ∃ rl, rl = ss.take m := ⟨_, rfl⟩
  have tl : rl.length = m := by rw [erl, List.length_take]; omega
  have rr : (List.range m).map (sF ss) = rl := by
    rw [erl]
    refine List.ext_getElem (by rw [List.length_map, List.length_range, List.length_take]; omega) fun i h1 h2 => ?_
    have hi : i < m := by rw [List.length_map, List.length_range] at h1; exact h1
    rw [List.getElem_map, List.getElem_range, List.getElem_take]
    have := sF_at (ys := ss) (k := i) (by omega)
    rw [List.getElem?_eq_getElem (by omega)] at this
    exact (Option.some.inj this).symm
  rw [K1.cut_map, cut_front, ← erl]
  refine ⟨mulw (by omega) (by omega), rl, rfl, by omega, fun ys yp ysrt => .inl ⟨_, _, rfl, rfl, ?_⟩⟩
  have sw := ways_sortable ((List.range m).map (ringW (sF ss) (fun k => sF ss (8 + k)) (fun _ => β) m))
  refine ⟨_, .inl (by show AV.dat (.list ((List.range m).map fun k => rowD (ringW (sF ss) (fun k => sF ss (8 + k)) (fun _ => β) m k))) = AV.dat (.list (((List.range m).map (ringW (sF ss) (fun k => sF ss (8 + k)) (fun _ => β) m)).map rowD)); rw [List.map_map]; rfl), sw.1, sw.2.1, sw.2.2, .inl ⟨_, _, rfl, rfl, [.int (3 * β), .tuple (ys.map PyData.str), .tuple (srtD (((List.range m).map (ringW (sF ss) (fun k => sF ss (8 + k)) (fun _ => β) m)).map rowD))], ⟨_, rfl, rfl⟩, by show 3 ≤ sizeLine; omega, ?_⟩⟩
  rw [srt_ways]
  have qp : (((List.range m).map (ringW (sF ss) (fun k => sF ss (8 + k)) (fun _ => β) m)).mergeSort leW).Perm ((List.range m).map (ringW (sF ss) (fun k => sF ss (8 + k)) (fun _ => β) m)) := List.mergeSort_perm _ _
  generalize ((List.range m).map (ringW (sF ss) (fun k => sF ss (8 + k)) (fun _ => β) m)).mergeSort leW = qs at qp
  obtain ⟨pn, R⟩ := ring_plan (ys := ys) qp (by rw [rr]; exact yp) m3 (by omega) inj (fun i j hi hj e => by have := sF_inj snd (by omega) (by omega) e; omega) (fun k hk => ⟨β1, β6⟩) (fun k hk => nok _ (sF_mem (by omega))) (fun k hk => nok _ (sF_mem (by omega)))
  obtain ⟨G, eG⟩ : ∃ G : Int, F + 9 * β = G := ⟨_, rfl⟩
  rw [eG]
  refine lc_T (μ1 := μ4) (List.range m) (fun k => .int (k : Nat)) (fun _ => true) (fun k => .tuple [.str (sF ss k), .int (G - (0 - (k : Int)) % 3 * β)]) (fun Z z => by walk_at "dl"; rw [← rangeD_nat] at z; exact ⟨by omega, z⟩) (by rw [List.length_range]; omega) (fun k hk ν R1 R0 fr r1 r0 => ?_) ?_
  · have hk := List.mem_range.mp hk
    walk_at "dl"
    have h3 := third k
    rw [Int.zero_sub] at h3
    refine ⟨_, ⟨_, rfl, at_strF (by omega)⟩, mulw (by rw [h3]; split <;> (try split) <;> omega) (by omega), _, rfl, by show 2 ≤ sizeLine; omega, ?_⟩
    have r1 := r1 rfl
    rw [Int.zero_sub] at r1
    exact r1
  rw [List.filter_eq_self.mpr fun _ _ => rfl]
  have rn : rl.Nodup := by rw [erl]; exact snd.sublist (List.take_sublist _ _)
  obtain ⟨last, el⟩ : ∃ last : Str → Option Int, last = fun x => some (G - (0 - ((place (sF ss) m x : Nat) : Int)) % 3 * β) := ⟨_, rfl⟩
  have lat : ∀ k, k < m → last (sF ss k) = some (G - (0 - (k : Int)) % 3 * β) := fun k h => by rw [el]; simp only; rw [place_at inj h]
  have ek : (List.range m).map (fun k => PyData.tuple [.str (sF ss k), .int (G - (0 - (k : Int)) % 3 * β)]) = (rl.map fun s => ((.inr s : Key), lastD (last s))).map fun q => PyData.tuple [kD q.1, q.2] := by
    rw [← rr, List.map_map, List.map_map]
    refine List.map_congr_left fun k hk => ?_
    show _ = PyData.tuple [.str (sF ss k), lastD (last (sF ss k))]
    rw [lat k (List.mem_range.mp hk)]
    rfl
  refine ⟨rl.map fun s => (.inr s, lastD (last s)), by rw [ek], fun p hp => ?_⟩
  rw [merge_nodup (by rw [List.map_map, List.map_map]; exact List.pairwise_map.mpr (rn.imp fun h e => h (Sum.inr.inj e)))]
  have Hp : mset μ4 p (some (.dK (List.map (fun q => (q.1, AV.dat q.2)) (rl.map fun s => ((.inr s : Key), lastD (last s)))))) p = some (.dK (lastKV rl last)) := by rw [mset_same, List.map_map]; rfl
  have x5 : ∀ b, μ4 b ≠ none → mset μ4 p (some (.dK (List.map (fun q => (q.1, AV.dat q.2)) (rl.map fun s => ((.inr s : Key), lastD (last s)))))) b = μ4 b := fun b hb => mset_ne fun z => hb (by rw [z]; exact hp)
  generalize mset μ4 p (some (.dK (List.map (fun q => (q.1, AV.dat q.2)) (rl.map fun s => ((.inr s : Key), lastD (last s)))))) = μ5 at Hp x5
  have vL : ∀ x ∈ rl, valA (lastKV rl last) (.inr x) = some (.dat (lastD (last x))) := fun x hx => valA_map (f := fun s => s) (g := fun s => .dat (lastD (last s))) (by simpa using rn) hx
  have yl : ys.length = m := by rw [yp.length_eq, tl]
  refine lc_T (μ1 := μ5) ys PyData.str (fun _ => true) (fun s => lastD (last s)) (fun Z z => by walk_at "dl"; exact z) (by omega) (fun x hx ν R1 R0 fr r1 r0 => ?_) ?_
  · walk_at "dl"
    exact ⟨_, by rw [fr p (by rw [Hp]; simp)]; exact Hp, _, vL x (yp.mem_iff.mp hx), r1 rfl⟩
  rw [List.filter_eq_self.mpr fun _ _ => rfl]
  refine .inl ⟨_, _, rfl, rfl, _, ⟨_, rfl, rfl⟩, by show 2 ≤ sizeLine; omega, ?_⟩
  have hI : ∀ k, k < m → leanF G last (sF ss k) (ringW (sF ss) (fun k => sF ss (8 + k)) (fun _ => β) m k) = if k % 3 = 0 then 1 else 0 := fun k hk => by
    refine lean_ring (nx k hk) ?_
    rw [lat k hk, lat _ (mod_lt' m3 (k + 1))]
    refine wave_pair β1 ?_
    rw [em, Nat.mod_mul_right_mod]
  have ep : PyData.tuple [.int G, .tuple (ys.map fun s => lastD (last s))] = picD G (ys.map last) := by unfold picD; rw [List.map_map]; rfl
  have er : (List.range m).map (fun k => PyData.tuple [.str (sF ss k), .str (sF ss (8 + k))]) = (arcL m (sF ss) (ringW (sF ss) (fun k => sF ss (8 + k)) (fun _ => β) m) 0 m).map hopD := by
    unfold arcL
    rw [List.map_map]
    refine List.map_congr_left fun k hk => ?_
    show _ = hopD (sF ss ((0 + k) % m), _)
    rw [Nat.zero_add, Nat.mod_eq_of_lt (List.mem_range.mp hk)]
    rfl
  refine for_by (μ1 := μ5) (rangeD 0 m) (fun Z z => by walk_at "dl"; exact ⟨by omega, z⟩) (fun k δ' μ' => μ' = μ5 ∧ ∃ y12 y13, δ' = [some (.mut t), some (.dat (.list (ss.map PyData.str))), some (.dat (.int (w : Nat))), some (.dat (.int β)), some (.dat (.int F)), some (.dat (.int (m : Nat))), some (.dat (.int G)), some (.dat (.list ((arcL m (sF ss) (ringW (sF ss) (fun k => sF ss (8 + k)) (fun _ => β) m) 0 m).map hopD))), some (.dat (.list ((List.range m).map fun k => rowD (ringW (sF ss) (fun k => sF ss (8 + k)) (fun _ => β) m k)))), some (.dat (planD (3 * β) ys qs)), some (.mut p), some (.dat (picD G (ys.map last))), y12, y13, none]) ⟨rfl, _, _, by rw [← ep, ← er]; rfl⟩ (fun k d δ' μ' hd ⟨e1, y12, y13, e2⟩ => ?_) (fun δ' μ' ⟨e1, y12, y13, e2⟩ => ?_)
  · subst e1 e2
    obtain ⟨rfl, hk⟩ := rangeD_get hd
    walk_at "dl"
    have hL := lean_lo (nx k hk) (hI k hk)
    have hq : ringW (sF ss) (fun k => sF ss (8 + k)) (fun _ => β) m k ∈ qs := (R.mem _).mpr ⟨k, hk, rfl⟩
    have at0 : atI (ss.map PyData.str) (k : Int) = some (.str (sF ss k)) := at_strF (by omega)
    have at1 : atI (ss.map PyData.str) (((k : Int) + 1) % (m : Int)) = some (.str (sF ss ((k + 1) % m))) := by
      have hm := mod_lt' m3 (k + 1)
      rw [show ((k : Int) + 1) % (m : Int) = (((k + 1) % m : Nat) : Int) by rw [Int.natCast_emod]; rfl]
      exact at_strF (by omega)
    have at8 : atI (ss.map PyData.str) (8 + (k : Int)) = some (.str (sF ss (8 + k))) := at_strF (k := 8 + k) (by omega)
    have fin : ∀ v : Int, v.natAbs ≤ 1000 → leanI G last (ringW (sF ss) (fun k => sF ss (8 + k)) (fun _ => β) m k) = v → d_lean [.dat (planD (3 * β) ys qs), .dat (picD G (ys.map last)), .dat (.str (sF ss (8 + k)))] μ' fun x μ1 => d_law_same 5 [x, .dat (.int v)] μ1 fun x μ1 => x = .dat (.bool false) ∧ Q (.dat (.bool false)) μ1 ∨ x = .dat (.bool true) ∧ μ1 = μ' := fun v v1 hv =>
      ⟨3 * β, ys, qs, G, last, ringW (sF ss) (fun k => sF ss (8 + k)) (fun _ => β) m k, rfl, pn, hq, by rw [hv]; exact ⟨.int v, rfl, by omega, plain_i v1, .inr ⟨rfl, rfl⟩⟩⟩
    by_cases k0 : (k : Int) % 3 = 0
    · rw [if_pos (show k % 3 = 0 by omega)] at hL
      refine .inr ⟨k0, _, ⟨_, rfl, at0⟩, by omega, _, ⟨_, rfl, at1⟩, _, rfl, _, rfl, ?_⟩
      by_cases c : (sF ss k).cps < (sF ss ((k + 1) % m)).cps
      · rw [if_pos c] at hL ⊢
        exact ⟨mulw (by omega) (by omega), _, ⟨_, rfl, at8⟩, fin _ (by omega) hL⟩
      · rw [if_neg c] at hL ⊢
        exact ⟨mulw (by omega) (by omega), _, ⟨_, rfl, at8⟩, fin _ (by omega) hL⟩
    · rw [if_neg (show ¬ k % 3 = 0 by omega)] at hL
      refine .inl ⟨k0, _, ⟨_, rfl, at0⟩, by omega, _, ⟨_, rfl, at1⟩, _, rfl, _, rfl, ?_⟩
      have hL : leanI G last (ringW (sF ss) (fun k => sF ss (8 + k)) (fun _ => β) m k) = 0 := by rw [hL]; split <;> rfl
      split
      · exact ⟨mulw (by omega) (by omega), _, ⟨_, rfl, at8⟩, fin _ (by omega) hL⟩
      · exact ⟨mulw (by omega) (by omega), _, ⟨_, rfl, at8⟩, fin _ (by omega) hL⟩
  · subst e1 e2
    walk_at "dl"
    refine ⟨3 * β, ys, qs, G, last, m, sF ss, ringW (sF ss) (fun k => sF ss (8 + k)) (fun _ => β) m, (w : Int), rfl, pn, R, by omega, fun k hk => yp.mem_iff.mpr (by rw [← rr]; exact List.mem_map.mpr ⟨k, List.mem_range.mpr hk, rfl⟩), waves_wind w12 em hI, by omega, by omega, fun μ6 f6 => q μ6 ?_ fun c hc hn => ?_⟩
    · refine (((tp4.ext x5).ext f6).le (by omega))
    · have h1 := f1 c hc
      have h2 := f2 c hc
      have h3 := f3 c hc
      have h4 := f4 c hc
      have e4 : μ4 c = μ c := by rw [h4, h3, h2, h1]
      rw [f6 c (by rw [x5 c (by rw [e4]; exact hn), e4]; exact hn), x5 c (by rw [e4]; exact hn), e4]
end
end K1


set_option maxHeartbeats 4000000
namespace K1
open PySem PySem.Spec PyProof.Rows L2 RZ DL
local macro_rules | `(tactic| walk_at "dl") => `(tactic| simp [and_assoc, mRet, mAnd, mOr, mCall, mCons, mVar, mCls, mNil, mC, oIsi, oIsi2, mNot, startD, mSeq, mIfS, mTOr, mTAnd, mTNot, mTest, mChain, mNext, oA1, oA2, oIB, oII, oII0, mOp, mUn, mAsg, mgName, mgTup, mgCons_c, mgNil_n, zipAs_l, zipAs_t, oSl_l, oSl_t, oSl_s, oSl_r, mPart, mSl, mIf, wipeD, oSign, oSS, oLen, LenD_s, LenD_l, LenD_t, LenD_m, miZ, miS, miT, miL, miE, miR, oEq, oNe, eqD_i, eqD_b, eqD_s, oInT, oIx, ixD_l, ixD_t, ixD_s, ixD_m, ix0, ix1, ix2, ix3, oAbs, oInt, oMax, oMin, mPar, mPar3, mTup, mLst, mLstM, asD, mExpr, itemsD_l, itemsD_t, oNeg, mgSub, mset_same, mIsN, mDrp, mTIsN, oEqW, eqW_n, eqW_b, eqW_i, eqW_s, non_n, non_b, non_i, non_s, non_l, non_t, miR2, mDNew, mDGet, mDPut, mDisp, mPairs, kD_s, kD_i, isStr, isTup, isLst, isBool, DL.isInt, mAppend, mDPop, oNeE, miM, DL.HoldL, mDIn, mDictZip, oRepU, mListZip, oDictP, mCallP, pick, oNotB, mExtend, oSortA, oSortAM, mTupM, oIxT, mgTupC, mCallB, miD, miC, mGh, miMix, Sk.dat, mUpdate, mItems, oDictD, oListM, oListC, oRepL, oSortT, mVals, mDGetT, mDInT, mDPutT, mDGet2T, mLockE, mLockS, mNever, oSumI, oMaxI, mgLstU, oHpop, oHpush, mTru, mStar, mCont, mMinVals, mPop0, mTIsNM, mTIsNE, mRev])
section
variable {P : Program} {w : World} {K : PySem.W.Frag} {mg : Str → Option Value} {base : Heap}
def d_law_kindled_right : DOs := fun as μ Q => ∃ t n, as = [.mut t] ∧ TapeAt t n μ ∧ n ≤ 500000 ∧ ∀ μ', TapeAt t (n + 60) μ' → (∀ c, c ≠ t → μ c ≠ none → μ' c = μ c) → Q (.dat (.bool true)) μ'
theorem ok_law_kindled_right (T : Txt K mg) (p_law_draw : Prm P w K mg base 1 "_law_draw" 2 d_law_draw) (p_law_names : Prm P w K mg base 2 "_law_names" 2 d_law_names) (p_law_same : Prm P w K mg base 8 "_law_same" 2 (d_law_same 5)) (p_lean : Prm P w K mg base 3 "lean" 3 d_lean) (p_law_told_right : Prm P w K mg base 9 "_law_told_right" 4 d_law_told_right) {f : Addr} {fd : FuncData} (D : DefAt K mg "_law_kindled_right" s_law_kindled_right ["tape"] f fd) : Prm P w K mg base 10 "_law_kindled_right" 1 d_law_kindled_right := by
  refine prm_of D sc_law_kindled_right rfl (fun as μ Q ⟨t, n, e, _⟩ => by rw [e]; rfl) fun cdv A out s H hr hg => ⟨_, _,
(db_cons (ds_asg (vs := [1, 2, 3]) (de_tup (da_cons (de_call p_law_names (hr.mono (by omega)) hg (by rfl) (da_cons (de_var (pv 0)) (da_cons de_int da_nil))) (da_cons (de_op op_add so_II0 de_int (de_call p_law_draw (hr.mono (by omega)) hg (by rfl) (da_cons (de_var (pv 0)) (da_cons de_int da_nil)))) (da_cons (de_call p_law_draw (hr.mono (by omega)) hg (by rfl) (da_cons (de_var (pv 0)) (da_cons de_int da_nil))) da_nil)))) (dg_tup (K := K) (n := 3) rfl rfl (dgs_cons (dg_name (pg_name (i := 1) sc_law_kindled_right.nd rfl (by first | exact Or.inl rfl | exact Or.inr rfl)) (by decide)) (dgs_cons (dg_name (pg_name (i := 2) sc_law_kindled_right.nd rfl (by first | exact Or.inl rfl | exact Or.inr rfl)) (by decide)) (dgs_cons (dg_name (pg_name (i := 3) sc_law_kindled_right.nd rfl (by first | exact Or.inl rfl | exact Or.inr rfl)) (by decide)) dgs_nil)))))
    (db_cons (ds_setE (i := 4) sc_law_kindled_right.nd rfl (by first | exact Or.inl rfl | exact Or.inr rfl) (de_op op_catS so_catL (de_op op_rep so_repL (dm_lst (da_cons (de_op op_add so_II0 de_int (de_call p_law_draw (hr.mono (by omega)) hg (by rfl) (da_cons (de_var (pv 0)) (da_cons de_int da_nil)))) da_nil)) (de_op op_sub so_II0 (de_var (pv 2)) de_int)) (de_lst (da_cons de_int da_nil))))
    (db_cons (ds_setE (i := 5) sc_law_kindled_right.nd rfl (by first | exact Or.inl rfl | exact Or.inr rfl) (de_callB (cr_sum rfl) (so_A1 so_sumI) (by rfl) T.n_sum (by decide +kernel) (da_cons (de_slice (de_var (pv 4)) dp_none (dp_some (de_un un_neg so_neg de_int))) da_nil)))
    (db_cons (ds_setE (i := 6) sc_law_kindled_right.nd rfl (by first | exact Or.inl rfl | exact Or.inr rfl) (de_op op_add so_II0 (de_op op_add so_II0 (de_op op_mul so_II de_int (de_ix (de_var (pv 4)) de_int (fun _ _ => rfl))) de_int) (de_call p_law_draw (hr.mono (by omega)) hg (by rfl) (da_cons (de_var (pv 0)) (da_cons (de_op op_sub so_II0 (de_var (pv 5)) (de_op op_mul so_II de_int (de_ix (de_var (pv 4)) de_int (fun _ _ => rfl)))) da_nil)))))
    (db_cons (ds_setLc (i := 7) (own := [("k", 12)]) rfl sc_law_kindled_right.nd rfl rfl (sw_true rfl rfl rfl (by decide +kernel)) (di_rangeE (by rfl) T.n_range (da_cons (de_var (pv 2)) da_nil)) (blkOk_by (N := N_law_kindled_right) (sc := defScope s_law_kindled_right) (by decide +kernel)) (fun _ _ _ _ _ => (dg_name (pg_name (i := 12) sc_law_kindled_right.nd rfl (by first | exact Or.inl rfl | exact Or.inr rfl)) (by decide))) (fun _ _ _ _ _ => dts_nil) (fun _ _ _ _ _ => (de_tup (da_cons (de_ixL (K := K) (de_var (pv 1)) (de_var (pv 12)) (fun _ _ => rfl)) (da_cons (de_ixL (K := K) (de_var (pv 1)) (de_op op_add so_II0 de_int (de_var (pv 12))) (fun _ _ => rfl)) da_nil)))))
    (db_cons (ds_setLc (i := 8) (own := [("k", 12)]) rfl sc_law_kindled_right.nd rfl rfl (sw_true rfl rfl rfl (by decide +kernel)) (di_rangeE (by rfl) T.n_range (da_cons (de_var (pv 2)) da_nil)) (blkOk_by (N := N_law_kindled_right) (sc := defScope s_law_kindled_right) (by decide +kernel)) (fun _ _ _ _ _ => (dg_name (pg_name (i := 12) sc_law_kindled_right.nd rfl (by first | exact Or.inl rfl | exact Or.inr rfl)) (by decide))) (fun _ _ _ _ _ => dts_nil) (fun _ _ _ _ _ => (de_opC (K := K) (r := rCatA) rfl op_catA so_catT (de_opC (K := K) (r := rCatA) rfl op_catA so_catT (de_tup (da_cons (de_ixL (K := K) (de_var (pv 1)) (de_op op_add so_II0 de_int (de_var (pv 12))) (fun _ _ => rfl)) da_nil)) (de_callTyC (K := K) (rr := rTupOf) rfl call_tuple_of (so_A1 so_tuple) (by rfl) T.n_tuple (by decide +kernel) (da_cons (de_callBC (K := K) (rr := rSortedS) rfl cr_sortedS (so_A1 so_sortS) (by rfl) T.n_sorted (by decide +kernel) (da_cons (de_lst (da_cons (de_ixL (K := K) (de_var (pv 1)) (de_var (pv 12)) (fun _ _ => rfl)) (da_cons (de_ixL (K := K) (de_var (pv 1)) (de_op op_mod so_II (de_op op_add so_II0 (de_var (pv 12)) de_int) (de_var (pv 2))) (fun _ _ => rfl)) da_nil))) da_nil)) da_nil))) (de_tup (da_cons (de_ixL (K := K) (de_var (pv 4)) (de_var (pv 12)) (fun _ _ => rfl)) da_nil)))))
    (db_cons (ds_asg (vs := [9, 10]) (dm_tup (da_cons (de_tup (da_cons (de_var (pv 6)) (da_cons (de_callTy call_tuple_of (so_A1 so_tuple) (by rfl) T.n_tuple (by decide +kernel) (da_cons (de_callB cr_sortedS (so_A1 so_sortS) (by rfl) T.n_sorted (by decide +kernel) (da_cons (de_slice (de_var (pv 1)) dp_none (dp_some (de_var (pv 2)))) da_nil)) da_nil)) (da_cons (de_callTy call_tuple_of (so_A1 so_tuple) (by rfl) T.n_tuple (by decide +kernel) (da_cons (de_callB (cr_sortA (hu64 hr)) (so_A1 so_sortA) (by rfl) T.n_sorted (by decide +kernel) (da_cons (de_var (pv 8)) da_nil)) da_nil)) da_nil)))) (da_cons de_dnew da_nil))) (dg_tupC (K := K) (n := 2) rfl rfl (dgs_cons (dg_name (pg_name (i := 9) sc_law_kindled_right.nd rfl (by first | exact Or.inl rfl | exact Or.inr rfl)) (by decide)) (dgs_cons (dg_name (pg_name (i := 10) sc_law_kindled_right.nd rfl (by first | exact Or.inl rfl | exact Or.inr rfl)) (by decide)) dgs_nil))))
    (db_cons (ds_setE (i := 11) sc_law_kindled_right.nd rfl (by first | exact Or.inl rfl | exact Or.inr rfl) (de_ix (de_lst (da_cons (de_op op_sub so_II0 (de_var (pv 6)) de_int) (da_cons (de_op op_sub so_II0 (de_var (pv 6)) de_int) (da_cons (de_op op_add so_II0 (de_var (pv 5)) (de_op op_mul so_II de_int (de_var (pv 6)))) (da_cons de_int da_nil))))) (de_var (pv 3)) (fun _ _ => rfl)))
    (db_cons (ds_for (vs := [12]) PassesOwn.never rfl (di_rangeE (by rfl) T.n_range (da_cons (de_var (pv 2)) da_nil)) (dg_name (pg_name (i := 12) sc_law_kindled_right.nd rfl (by first | exact Or.inl rfl | exact Or.inr rfl)) (by decide)) (db_cons (ds_setE (i := 13) sc_law_kindled_right.nd rfl (by first | exact Or.inl rfl | exact Or.inr rfl) (de_ix (de_lst (da_cons (de_callB (cr_sum rfl) (so_A1 so_sumI) (by rfl) T.n_sum (by decide +kernel) (da_cons (de_slice (de_var (pv 4)) dp_none (dp_some (de_var (pv 12)))) da_nil)) (da_cons (de_callB (call_min2 rfl) (so_A2 so_min) (by rfl) T.n_min (by decide +kernel) (da_cons (de_callB (cr_sum rfl) (so_A1 so_sumI) (by rfl) T.n_sum (by decide +kernel) (da_cons (de_slice (de_var (pv 4)) dp_none (dp_some (de_var (pv 12)))) da_nil)) (da_cons (de_callB (cr_sum rfl) (so_A1 so_sumI) (by rfl) T.n_sum (by decide +kernel) (da_cons (de_slice (de_var (pv 4)) (dp_some (de_var (pv 12))) (dp_some (de_un un_neg so_neg de_int))) da_nil)) da_nil))) (da_cons (de_callB (cr_sum rfl) (so_A1 so_sumI) (by rfl) T.n_sum (by decide +kernel) (da_cons (de_slice (de_var (pv 4)) dp_none (dp_some (de_var (pv 12)))) da_nil)) (da_cons de_int da_nil))))) (de_var (pv 3)) (fun _ _ => rfl)))
    (db_one (ds_dput (hu_of hr) (de_var (pv 10)) (de_ix (de_var (pv 1)) (de_var (pv 12)) (fun _ _ => rfl)) (de_if (dt_cmp op_le so_IB (de_var (pv 13)) (de_var (pv 11))) (de_var (pv 13)) de_non)))))
    (db_cons (ds_setE (i := 14) sc_law_kindled_right.nd rfl (by first | exact Or.inl rfl | exact Or.inr rfl) (de_tup (da_cons (de_var (pv 11)) (da_cons (de_callTy call_tuple_of (so_A1 so_tuple) (by rfl) T.n_tuple (by decide +kernel) (da_cons (de_lc (own := [("name", 15)]) rfl sc_law_kindled_right.nd (di_tup (de_ix (de_var (pv 9)) de_int (fun _ _ => rfl))) (blkOk_by (N := N_law_kindled_right) (sc := defScope s_law_kindled_right) (by decide +kernel)) (fun _ _ _ _ _ => (dg_name (pg_name (i := 15) sc_law_kindled_right.nd rfl (by first | exact Or.inl rfl | exact Or.inr rfl)) (by decide))) (fun _ _ _ _ _ => dts_nil) (fun _ _ _ _ _ => (de_dget (hu_of hr) (de_var (pv 10)) (de_var (pv 15)) (fun _ _ => rfl)))) da_nil)) da_nil))))
    (db_one (ds_ret (de_call p_law_told_right (hr.mono (by omega)) hg (by rfl) (da_cons (de_var (pv 9)) (da_cons (de_var (pv 14)) (da_cons (de_var (pv 7)) (da_cons (de_callTy call_int1 (so_A1 so_int) (by rfl) T.n_int (by decide +kernel) (da_cons (de_cmp op_eq so_eq (de_var (pv 3)) de_int) da_nil)) da_nil)))))))))))))))))
    , fun as μ Q ⟨t, n, e, ht, hn, q⟩ => ?_⟩
  subst e
  have hsl : sizeLine = 16777216 := sizeLine_eq
  walk_at "dl"
  refine ⟨t, n, 18, rfl, by omega, ht, by omega, fun ss μ1 h18 snd nok0 tp1 f1 => ?_⟩
  have nok : ∀ s ∈ ss, nmOk s := fun s hs => nok0 s hs
  refine ⟨t, 3, _, rfl, tp1, by omega, by omega, by omega, fun x μ2 x0 x1 tp2 f2 => ⟨x, rfl, ?_⟩⟩
  refine ⟨t, 4, _, rfl, tp2, by omega, by omega, by omega, fun wy μ3 w0 w1 tp3 f3 => ⟨_, rfl, by show 3 ≤ sizeLine; omega, rfl, ?_⟩⟩
  obtain ⟨m, em, m4, m6⟩ : ∃ m : Nat, 4 + x = (m : Int) ∧ 4 ≤ m ∧ m ≤ 6 := ⟨(4 + x).toNat, by omega, by omega, by omega⟩
  obtain ⟨way, ew, w4⟩ : ∃ way : Nat, wy = (way : Int) ∧ way < 4 := ⟨wy.toNat, by omega, by omega⟩
  subst ew
  rw [em]
  walk_at "dl"
  refine ⟨t, 3, _, rfl, tp3, by omega, by omega, by omega, fun z μ4 z0 z1 tp4 f4 => ⟨z, rfl, by omega, fun p4 hp4 => ⟨[.int (1 + z)], rfl, by omega, by omega, by show 1 ≤ 1000; omega, by omega, ?_⟩⟩⟩
  obtain ⟨a, ea, a1, a3⟩ : ∃ a : Int, 1 + z = a ∧ 1 ≤ a ∧ a ≤ 3 := ⟨1 + z, rfl, by omega, by omega⟩
  rw [ea]
  have lb : (blK a m).length = m := blK_len (by omega)
  refine ⟨_, _, rfl, rfl, by have h := congrArg List.length (blK_data (a := a) (m := m)); rw [List.length_append, List.length_map, lb] at h; rw [h]; omega, ?_⟩
  rw [blK_data]
  have f4' : ∀ X b, μ4 b ≠ none → mset μ4 p4 X b = μ4 b := fun X b hb => mset_ne fun z => hb (by rw [z]; exact hp4)
  have tp4' : TapeAt t (n + 20 + 1 + 1 + 1) (mset μ4 p4 (some (.lst [.dat (.int a)]))) := tp4.ext (f4' _)
  have f4' := f4' (some (.lst [.dat (.int a)]))
  generalize mset μ4 p4 (some (.lst [.dat (.int a)])) = μ5 at f4' tp4' ⊢
  walk_at "dl"
  have at0 : atI ((blK a m).map PyData.int) 0 = some (.int a) := by
    have := blK_at (a := a) (m := m) (k := 0) (by omega)
    unfold btK at this
    rwa [if_neg (by omega)] at this
  have am : 2 * a + 1 ≤ a * ((m - 1 : Nat) : Int) ∧ a * ((m - 1 : Nat) : Int) ≤ 15 := by
    have ha : a = 1 ∨ a = 2 ∨ a = 3 := by omega
    rcases ha with rfl | rfl | rfl <;> omega
  refine ⟨cutL (blK a m) none (some (-1)), .inl (by rw [K1.cut_map]), _, ⟨_, rfl, at0⟩, _, rfl, mulw (by omega) (by omega), _, ⟨_, rfl, at0⟩, _, rfl, mulw (by omega) (by omega), ?_⟩
  rw [blK_all (by omega)]
  refine ⟨t, a * ((m - 1 : Nat) : Int) - 2 * a, _, rfl, tp4', by omega, by omega, by omega, fun y μ6 y0 y1 tp6 f6 => ⟨y, rfl, ?_⟩⟩
  obtain ⟨R, eR, R1, R2⟩ : ∃ R : Int, 2 * a + 1 + y = R ∧ 2 * a + 1 ≤ R ∧ R ≤ a * ((m - 1 : Nat) : Int) := ⟨_, rfl, by omega, by omega⟩
  rw [eR]
  have inj : ∀ i j, i < m → j < m → sF ss i = sF ss j → i = j := fun i j hi hj e => sF_inj snd (by omega) (by omega) e
  have nx : ∀ k, k < m → sF ss k ≠ sF ss ((k + 1) % m) := fun k hk e => by
    have := inj _ _ hk (mod_lt' (by omega) _) e
    rw [mod_next (by omega) hk] at this
    split at this <;> omega
  refine lc_T (μ1 := μ6) (List.range m) (fun k => .int (k : Nat)) (fun _ => true) (fun k => .tuple [.str (sF ss k), .str (sF ss (8 + k))]) (fun Z z => by walk_at "dl"; rw [← rangeD_nat] at z; exact ⟨by omega, z⟩) (by rw [List.length_range]; omega) (fun k hk ν S1 S0 fr r1 r0 => ?_) ?_
  · have hk := List.mem_range.mp hk
    walk_at "dl"
    exact ⟨_, ⟨_, rfl, at_strF (by omega)⟩, _, ⟨_, rfl, at_strF (k := 8 + k) (by omega)⟩, _, rfl, by show 2 ≤ sizeLine; omega, r1 rfl⟩
  rw [List.filter_eq_self.mpr fun _ _ => rfl]
  refine lc_T (μ1 := μ6) (List.range m) (fun k => .int (k : Nat)) (fun _ => true) (fun k => rowD (ringW (sF ss) (fun k => sF ss (8 + k)) (btK a m) m k)) (fun Z z => by walk_at "dl"; rw [← rangeD_nat] at z; exact ⟨by omega, z⟩) (by rw [List.length_range]; omega) (fun k hk ν S1 S0 fr r1 r0 => ?_) ?_
  · have hk := List.mem_range.mp hk
    walk_at "dl"
    have hm := mod_lt' (by omega : 3 ≤ m) (k + 1)
    refine ⟨_, ⟨_, rfl, at_strF (k := 8 + k) (by omega)⟩, _, rfl, by show 1 ≤ sizeLine; omega, _, ⟨_, rfl, at_strF (by omega)⟩, by omega, .dat (.str (sF ss ((k + 1) % m))), ⟨_, rfl, by rw [show ((k : Int) + 1) % (m : Int) = (((k + 1) % m : Nat) : Int) by rw [Int.natCast_emod]; rfl]; exact at_strF (by omega)⟩, _, rfl, by show 2 ≤ sizeLine; omega, [sF ss k, sF ss ((k + 1) % m)], rfl, by show 2 < 64; omega, fun zs zp zs' => ?_⟩
    rw [two_sorted (nx k hk) zp zs']
    exact .inl ⟨_, _, rfl, rfl, _, _, rfl, rfl, by show 1 + 2 ≤ sizeLine; omega, _, ⟨_, rfl, blK_at hk⟩, _, rfl, by show 1 ≤ sizeLine; omega, _, _, rfl, rfl, by show 3 + 1 ≤ sizeLine; omega, r1 rfl⟩
  rw [List.filter_eq_self.mpr fun _ _ => rfl]
  obtain ⟨rl, erl⟩ : ∃ rl, rl = ss.take m := ⟨_, rfl⟩
  have tl : rl.length = m := by rw [erl, List.length_take]; omega
  have rr : (List.range m).map (sF ss) = rl := by
    rw [erl]
    refine List.ext_getElem (by rw [List.length_map, List.length_range, List.length_take]; omega) fun i h1 h2 => ?_
    have hi : i < m := by rw [List.length_map, List.length_range] at h1; exact h1
    rw [List.getElem_map, List.getElem_range, List.getElem_take]
    have := sF_at (ys := ss) (k := i) (by omega)
    rw [List.getElem?_eq_getElem (by omega)] at this
    exact (Option.some.inj this).symm
  rw [K1.cut_map, cut_front, ← erl]
  refine ⟨rl, rfl, by omega, fun ys yp ysrt => .inl ⟨_, _, rfl, rfl, ?_⟩⟩
  have sw := ways_sortable ((List.range m).map (ringW (sF ss) (fun k => sF ss (8 + k)) (btK a m) m))
  refine ⟨_, .inl (by show AV.dat (.list ((List.range m).map fun k => rowD (ringW (sF ss) (fun k => sF ss (8 + k)) (btK a m) m k))) = AV.dat (.list (((List.range m).map (ringW (sF ss) (fun k => sF ss (8 + k)) (btK a m) m)).map rowD)); rw [List.map_map]; rfl), sw.1, sw.2.1, sw.2.2, .inl ⟨_, _, rfl, rfl, [.int R, .tuple (ys.map PyData.str), .tuple (srtD (((List.range m).map (ringW (sF ss) (fun k => sF ss (8 + k)) (btK a m) m)).map rowD))], ⟨_, rfl, rfl⟩, by show 3 ≤ sizeLine; omega, fun pl hpl => ⟨by omega, fun tpl htp => ⟨mulw (by omega) (by omega), by omega, _, ⟨_, rfl, at_way w4⟩, ?_⟩⟩⟩⟩
  rw [srt_ways]
  have qp : (((List.range m).map (ringW (sF ss) (fun k => sF ss (8 + k)) (btK a m) m)).mergeSort leW).Perm ((List.range m).map (ringW (sF ss) (fun k => sF ss (8 + k)) (btK a m) m)) := List.mergeSort_perm _ _
  generalize ((List.range m).map (ringW (sF ss) (fun k => sF ss (8 + k)) (btK a m) m)).mergeSort leW = qs at qp
  obtain ⟨pn, RP⟩ := ring_plan (ys := ys) qp (by rw [rr]; exact yp) (by omega) (by omega) inj (fun i j hi hj e => by have := sF_inj snd (by omega) (by omega) e; omega) (fun k hk => by unfold btK; split <;> omega) (fun k hk => nok _ (sF_mem (by omega))) (fun k hk => nok _ (sF_mem (by omega)))
  rw [now_way]
  have nTP : pl ≠ tpl := fun z => by rw [← z, mset_same] at htp; cases htp
  rw [mset_ne nTP.symm] at htp
  obtain ⟨last, el⟩ : ∃ last : Str → Option Int, last = fun x => lsI a R m way (place (sF ss) m x) := ⟨_, rfl⟩
  have lat : ∀ k, k < m → last (sF ss k) = lsI a R m way k := fun k h => by rw [el]; simp only; rw [place_at inj h]
  obtain ⟨N, eN⟩ : ∃ N : Int, N = nowI a R m way := ⟨_, rfl⟩
  rw [← eN]
  have L7 : ∀ X, mset (mset μ6 pl (some (.dK []))) tpl X pl = some (.dK []) := fun X => by rw [mset_ne nTP, mset_same]
  have x7 : ∀ X b, μ6 b ≠ none → mset (mset μ6 pl (some (.dK []))) tpl X b = μ6 b := fun X b hb => by rw [mset_ne fun z => hb (by rw [z]; exact htp), mset_ne fun z => hb (by rw [z]; exact hpl)]
  refine for_by (rangeD 0 m) (fun Z z => by walk_at "dl"; exact ⟨by omega, z⟩) (fun j δ' μ' => ∃ y12 y13, δ' = [some (.mut t), some (.dat (.list (ss.map PyData.str))), some (.dat (.int (m : Nat))), some (.dat (.int (way : Nat))), some (.dat (.list ((blK a m).map PyData.int))), some (.dat (.int (a * ((m - 1 : Nat) : Int)))), some (.dat (.int R)), some (.dat (.list ((List.range m).map fun k => .tuple [.str (sF ss k), .str (sF ss (8 + k))]))), some (.dat (.list ((List.range m).map fun k => rowD (ringW (sF ss) (fun k => sF ss (8 + k)) (btK a m) m k)))), some (.dat (planD R ys qs)), some (.mut pl), some (.dat (.int N)), y12, y13, none, none] ∧
      μ' pl = some (.dK (lastKV ((List.range j).map (sF ss)) last)) ∧ ∀ b, μ6 b ≠ none → μ' b = μ6 b) ⟨_, _, rfl, L7 _, x7 _⟩ (fun j d δ' μ' hd ⟨y12, y13, e1, L8, x8⟩ => ?_) (fun δ' μ' ⟨y12, y13, e1, L8, x8⟩ => ?_)
  · subst e1
    obtain ⟨rfl, hj⟩ := rangeD_get hd
    walk_at "dl"
    rw [K1.cut_map, K1.cut_map, cut_front]
    refine ⟨_, .inl rfl, _, .inl rfl, _, .inl rfl, _, .inl rfl, by omega, _, ⟨_, rfl, at_way w4⟩, _, rfl, ?_⟩
    rw [blK_take (by omega), blK_mid (by omega), cm_way (m := m) (a := a) (k := j) (by split <;> omega)]
    have lL := put_lastB (last := last) inj hj
    rw [lat j hj] at lL
    unfold lsI at lL
    rw [← eN] at lL
    have z1 : (lastKV ((List.range j).map (sF ss)) last).length < sizeLine := by
      unfold lastKV
      rw [List.length_map, List.length_map, List.length_range]
      omega
    have at1 : atI (ss.map PyData.str) (j : Int) = some (.str (sF ss j)) := at_strF (by omega)
    have hb : ∀ (X : Option MO) b, μ6 b ≠ none → mset μ' pl X b = μ6 b := fun X b hb => by rw [mset_ne fun z => hb (by rw [z]; exact hpl), x8 b hb]
    by_cases c : cmI a m way j ≤ N
    · rw [if_pos c] at lL ⊢
      exact ⟨_, ⟨_, rfl, at1⟩, _, .inr (sF ss j), rfl, L8, z1, lL, fun b h => hb _ b h⟩
    · rw [if_neg c] at lL ⊢
      exact ⟨_, ⟨_, rfl, at1⟩, _, .inr (sF ss j), rfl, L8, z1, lL, fun b h => hb _ b h⟩
  · subst e1
    rw [rangeD_len, rr] at L8
    walk_at "dl"
    have rn : rl.Nodup := by rw [erl]; exact snd.sublist (List.take_sublist _ _)
    have vL : ∀ x ∈ rl, valA (lastKV rl last) (.inr x) = some (.dat (lastD (last x))) := fun x hx => valA_map (f := fun s => s) (g := fun s => .dat (lastD (last s))) (by simpa using rn) hx
    have yl : ys.length = m := by rw [yp.length_eq, tl]
    refine lc_T (μ1 := μ') ys PyData.str (fun _ => true) (fun s => lastD (last s)) (fun Z z => by walk_at "dl"; exact ⟨.dat (.tuple (ys.map PyData.str)), ⟨_, rfl, rfl⟩, _, rfl, z⟩) (by omega) (fun x hx ν S1 S0 fr r1 r0 => ?_) ?_
    · walk_at "dl"
      exact ⟨_, by rw [fr pl (by rw [L8]; simp)]; exact L8, _, vL x (yp.mem_iff.mp hx), r1 rfl⟩
    rw [List.filter_eq_self.mpr fun _ _ => rfl]
    refine .inl ⟨_, _, rfl, rfl, _, ⟨_, rfl, rfl⟩, by show 2 ≤ sizeLine; omega, ?_⟩
    have hI : ∀ k, k < m → leanF N last (sF ss k) (ringW (sF ss) (fun k => sF ss (8 + k)) (btK a m) m k) = vK a R m way k := fun k hk => by
      refine lean_ring (nx k hk) ?_
      rw [lat k hk, lat _ (mod_lt' (by omega) (k + 1)), eN]
      exact kindled_pair a1 a3 m4 m6 R1 R2 w4 hk
    have hW := kindled_wind m4 (by omega) R2 hI
    have ep : PyData.tuple [.int N, .tuple (ys.map fun s => lastD (last s))] = picD N (ys.map last) := by unfold picD; rw [List.map_map]; rfl
    have er : (List.range m).map (fun k => PyData.tuple [.str (sF ss k), .str (sF ss (8 + k))]) = (arcL m (sF ss) (ringW (sF ss) (fun k => sF ss (8 + k)) (btK a m) m) 0 m).map hopD := by
      unfold arcL
      rw [List.map_map]
      refine List.map_congr_left fun k hk => ?_
      show _ = hopD (sF ss ((0 + k) % m), _)
      rw [Nat.zero_add, Nat.mod_eq_of_lt (List.mem_range.mp hk)]
      rfl
    have fin : ∀ due : Int, windI N last (arcL m (sF ss) (ringW (sF ss) (fun k => sF ss (8 + k)) (btK a m) m) 0 m) = due → 0 ≤ due → due ≤ 8 → d_law_told_right [.dat (planD R ys qs), .dat (.tuple [.int N, .tuple (ys.map fun s => lastD (last s))]), .dat (.list ((List.range m).map fun k => .tuple [.str (sF ss k), .str (sF ss (8 + k))])), .dat (.int due)] μ' Q := fun due hd d0 d8 => by
      rw [ep, er]
      refine ⟨R, ys, qs, N, last, m, sF ss, ringW (sF ss) (fun k => sF ss (8 + k)) (btK a m) m, due, rfl, pn, RP, by omega, fun k hk => yp.mem_iff.mpr (by rw [← rr]; exact List.mem_map.mpr ⟨k, List.mem_range.mpr hk, rfl⟩), hd, d0, d8, fun μ9 f9 => q μ9 ?_ fun c hc hn => ?_⟩
      · exact ((tp6.ext x8).ext f9).le (by omega)
      · have h1 := f1 c hc
        have h2 := f2 c hc
        have h3 := f3 c hc
        have h4 := f4 c hc
        have e4 : μ4 c = μ c := by rw [h4, h3, h2, h1]
        have e5 : μ5 c = μ c := by rw [f4' c (by rw [e4]; exact hn), e4]
        have e6 : μ6 c = μ c := by rw [f6 c hc, e5]
        have e8 : μ' c = μ c := by rw [x8 c (by rw [e6]; exact hn), e6]
        rw [f9 c (by rw [e8]; exact hn), e8]
    by_cases w0 : way = 0
    · rw [if_pos w0] at hW
      exact .inr ⟨w0, fin 1 hW (by omega) (by omega)⟩
    · rw [if_neg w0] at hW
      exact .inl ⟨w0, fin 0 hW (by omega) (by omega)⟩
end
end K1


set_option maxHeartbeats 4000000
namespace K1
open PySem PySem.Spec PyProof.Rows L2 RZ DL
local macro_rules | `(tactic| walk_at "dl") => `(tactic| simp [and_assoc, mRet, mAnd, mOr, mCall, mCons, mVar, mCls, mNil, mC, oIsi, oIsi2, mNot, startD, mSeq, mIfS, mTOr, mTAnd, mTNot, mTest, mChain, mNext, oA1, oA2, oIB, oII, oII0, mOp, mUn, mAsg, mgName, mgTup, mgCons_c, mgNil_n, zipAs_l, zipAs_t, oSl_l, oSl_t, oSl_s, oSl_r, mPart, mSl, mIf, wipeD, oSign, oSS, oLen, LenD_s, LenD_l, LenD_t, LenD_m, miZ, miS, miT, miL, miE, miR, oEq, oNe, eqD_i, eqD_b, eqD_s, oInT, oIx, ixD_l, ixD_t, ixD_s, ixD_m, ix0, ix1, ix2, ix3, oAbs, oInt, oMax, oMin, mPar, mPar3, mTup, mLst, mLstM, asD, mExpr, itemsD_l, itemsD_t, oNeg, mgSub, mset_same, mIsN, mDrp, mTIsN, oEqW, eqW_n, eqW_b, eqW_i, eqW_s, non_n, non_b, non_i, non_s, non_l, non_t, miR2, mDNew, mDGet, mDPut, mDisp, mPairs, kD_s, kD_i, isStr, isTup, isLst, isBool, DL.isInt, mAppend, mDPop, oNeE, miM, DL.HoldL, mDIn, mDictZip, oRepU, mListZip, oDictP, mCallP, pick, oNotB, mExtend, oSortA, oSortAM, mTupM, oIxT, mgTupC, mCallB, miD, miC, mGh, miMix, Sk.dat, mUpdate, mItems, oDictD, oListM, oListC, oRepL, oSortT, mVals, mDGetT, mDInT, mDPutT, mDGet2T, mLockE, mLockS, mNever, oSumI, oMaxI, mgLstU, oHpop, oHpush, mTru, mStar, mCont, mMinVals, mPop0, mTIsNM, mTIsNE, mRev])
section
variable {P : Program} {w : World} {K : PySem.W.Frag} {mg : Str → Option Value} {base : Heap}
theorem tape_off {t D : Addr} {n : Int} {μ μ1 : Mu} {o : Option MO} (h : TapeAt t n μ) (ht : μ1 t ≠ none) (hD : μ1 D = none) : TapeAt t n (mset μ D o) := by
  obtain ⟨k0, k1, k2, g, hk⟩ := h
  exact ⟨k0, k1, k2, by rw [mset_ne fun z => ht (by rw [z]; exact hD)]; exact g, hk⟩
/-- a list of what a tape's turns answer -/
theorem lc_trues {MI : DIx} {G : DGx} {ME : DEx} {vs : List Nat} {δ : Dl} {μ : Mu} {P : DV} {t : Addr} {n s : Int} (N : Nat) (hN : N ≤ sizeLine) (ht : TapeAt t n μ) (hi : ∀ R : List PyData → Mu → Prop, R (rangeD 0 N) μ → MI δ μ R)
    (turn : ∀ i : Nat, i < N → ∀ (ν : Mu) (R : DV), TapeAt t (n + s * (i : Nat)) ν → (∀ ν', TapeAt t (n + s * (i : Nat) + s) ν' → (∀ c, c ≠ t → ν c ≠ none → ν' c = ν c) → R (.dat (.bool true)) ν') → G (.dat (.int (i : Nat))) (wipeD δ vs) ν fun δ2 μ2 => ME δ2 μ2 R)
    (done : ∀ ν, TapeAt t (n + s * N) ν → P (.dat (.list (List.replicate N (.bool true)))) ν) : mLc MI G (fun _ μ P => P true μ) ME vs δ μ P := by
  have t0 : μ t ≠ none := by
    obtain ⟨_, _, _, g, _⟩ := ht
    rw [g]
    simp
  refine hi _ ⟨by rw [rangeD_len]; exact hN, fun D hD => ⟨fun i acc μ' => acc = List.replicate i (.bool true) ∧ TapeAt t (n + s * (i : Nat)) μ', ⟨rfl, by simpa using tape_off ht t0 hD⟩, fun i d acc μ' hd ⟨w1, w2⟩ hc => ?_, fun acc μ' ⟨w1, w2⟩ hc => ?_⟩⟩
  · obtain ⟨rfl, hi⟩ := rangeD_get hd
    have Dt : D ≠ t := fun z => t0 (by rw [← z]; exact hD)
    refine turn i hi μ' _ w2 fun ν' g1 g2 => ⟨_, rfl, by rw [g2 D Dt (by rw [hc]; simp [cellA]), hc], by rw [w1, List.replicate_succ'], ?_⟩
    refine tape_off ?_ t0 hD
    rw [show n + s * ((i + 1 : Nat) : Int) = n + s * (i : Nat) + s by rw [Int.natCast_add, Int.mul_add]; simp; omega]
    exact g1
  · rw [rangeD_len] at w1 w2
    rw [w1]
    exact done _ (tape_off w2 t0 hD)
def d_law : DOs := fun as μ Q => ∃ ns : List Int, as = [.raw ns] ∧ ns.length ≤ 63 ∧ ∀ μ', Q (.dat (.bool true)) μ'
theorem ok_law_body (T : Txt K mg) (p_law_folded : Prm P w K mg base 1 "_law_folded" 2 d_law_folded) (p_law_tape : Prm P w K mg base 1 "_law_tape" 2 d_law_tape) (p_law_kindled_right : Prm P w K mg base 10 "_law_kindled_right" 1 d_law_kindled_right) (p_law_waves_right : Prm P w K mg base 10 "_law_waves_right" 1 d_law_waves_right) {f : Addr} {fd : FuncData} (D : DefAt K mg "law" s_law ["script"] f fd) : FnG P w K mg base 12 f fd ["script"] (spOf K 1 d_law) := by
  refine fng_by D.fn sc_law rfl fun cdv A out s H hr hg => ⟨_, _,
(db_cons (ds_setE (i := 1) sc_law.nd rfl (by first | exact Or.inl rfl | exact Or.inr rfl) (de_call p_law_folded (hr.mono (by omega)) hg (by rfl) (da_cons (de_var (pv 0)) (da_cons de_int da_nil))))
    (db_cons (ds_for (vs := [2]) PassesOwn.never rfl (di_rangeE (by rfl) T.n_range (da_cons (de_callB (call_max2 rfl) (so_A2 so_max) (by rfl) T.n_max (by decide +kernel) (da_cons de_int (da_cons (de_callB call_len (so_A1 so_len) (by rfl) T.n_len (by decide +kernel) (da_cons (de_var (pv 1)) da_nil)) da_nil))) da_nil)) (dg_name (pg_name (i := 2) sc_law.nd rfl (by first | exact Or.inl rfl | exact Or.inr rfl)) (by decide)) (db_cons (ds_setE (i := 3) sc_law.nd rfl (by first | exact Or.inl rfl | exact Or.inr rfl) (de_call p_law_tape (hr.mono (by omega)) hg (by rfl) (da_cons (de_var (pv 1)) (da_cons (de_var (pv 2)) da_nil))))
    (db_one (ds_if (dt_not (dt_val (de_callB (cr_all rfl) (so_A1 so_all) (by rfl) T.n_all (by decide +kernel) (da_cons (de_lc (own := [("turn", 4)]) rfl sc_law.nd (di_rangeE (by rfl) T.n_range (da_cons de_int da_nil)) (blkOk_by (N := N_law) (sc := defScope s_law) (by decide +kernel)) (fun _ _ _ _ _ => (dg_name (pg_name (i := 4) sc_law.nd rfl (by first | exact Or.inl rfl | exact Or.inr rfl)) (by decide))) (fun _ _ _ _ _ => dts_nil) (fun _ _ _ _ _ => (de_and (de_callC p_law_kindled_right rfl rfl rfl rfl rfl (hr.mono (by omega)) hg (by rfl) (da_cons (de_var (pv 3)) da_nil)) (de_one (de_callC p_law_waves_right rfl rfl rfl rfl rfl (hr.mono (by omega)) hg (by rfl) (da_cons (de_var (pv 3)) da_nil)))))) da_nil)))) (db_one (ds_ret de_bl)) db_nil))))
    (db_one (ds_ret de_bl))))
    , fun as μ Q ⟨ns, e, hl, q⟩ => ?_⟩
  subst e
  have hsl : sizeLine = 16777216 := sizeLine_eq
  walk_at "dl"
  refine ⟨ns, 4, rfl, by omega, by omega, hl, fun cs hcs => ?_⟩
  refine for_by (μ1 := μ) (rangeD 0 (if (cs.length : Int) > 1 then (cs.length : Int) else 1).toNat) (fun R r => by walk_at "dl"; exact ⟨by split <;> omega, by split <;> omega, r⟩) (fun i δ' μ' => ∃ y2 y3 y4, δ' = [some (.raw ns), some (.dat (.list (cs.map PyData.int))), y2, y3, y4]) ⟨none, none, none, rfl⟩ (fun i d δ' μ' hd ⟨y2, y3, y4, e1⟩ => ?_) (fun δ' μ' ⟨y2, y3, y4, e1⟩ => ?_)
  · subst e1
    obtain ⟨rfl, hi⟩ := rangeD_get hd
    have hi4 : i < 4 := by
      split at hi <;> omega
    walk_at "dl"
    refine ⟨cs, i, rfl, by omega, by omega, fun t μ1 _ ht1 _ => ?_⟩
    walk_at "dl"
    refine lc_trues (s := 120) 2 (by omega) ht1 (fun Z z => by walk_at "dl"; exact z) (fun i hi ν R tp g => ?_) fun ν tp => ?_
    · walk_at "dl"
      refine ⟨t, _, rfl, tp, by omega, fun μ2 tp2 k2 => .inr ⟨rfl, t, _, rfl, tp2, by omega, fun μ3 tp3 k3 => g μ3 (tp3.le (by omega)) fun c h1 h2 => ?_⟩⟩
      rw [k3 c h1 (by rw [k2 c h1 h2]; exact h2), k2 c h1 h2]
    · exact ⟨[true, true], rfl, .inr rfl⟩
  · subst e1
    walk_at "dl"
    exact q μ'
end
end K1


set_option maxHeartbeats 4000000
namespace DL
open PySem PySem.Spec PyProof.Rows L2
/-! ### the head: a promise of data, where no repr is under way -/
section
variable {P : Program} {w : World} {K : PySem.W.Frag} {mg mb : Str → Option Value} {st : Shared} {p : Addr} {us : List Value} {zs : List Int}
abbrev scriptObj (us : List Value) : Obj := { cls := .type "list", data := .seq us.toArray }
theorem head_of {H : Hp} (kin : K.In st.heap) (gn : st.heap.Ns mainGlobals mg) (bn : st.heap.Ns builtinsNs mb) (bb : ∀ y : Str, y ≠ "__name__" → mb y = bootBuiltins y)
    (lim : st.heap.NoLimit) (gens : st.gens = #[]) (at_ : st.heap.get? p = some (scriptObj us)) (only : ∀ b, H b ≠ none → b = p) (free : H p ≠ none → K.lookup p = none) (good : HOk P w H st.heap) :
    Env0 P w K mg (hidT st.heap H) callerA [] st H ∧ K.In (hidT st.heap H) ∧ (hidT st.heap H).Ns mainGlobals mg := by
  have out : ∀ {b : Addr} {o : Obj}, st.heap.get? b = some o → (H b ≠ none → b ≠ p) → (hidT st.heap H).get? b = some o := fun {b o} e n => hidT_get e (Classical.byContradiction fun z => n z (only b z))
  have dicts : ∀ {b : Addr} {o : Obj} {es : Array DictEntry} {ep : Nat}, st.heap.get? b = some o → o.data = .dict es ep → b ≠ p := fun {b o es ep} e d z => by
    rw [z, at_] at e
    cases e
    cases d
  have spaces : ∀ {b : Addr} {m : Str → Option Value}, st.heap.Ns b m → (hidT st.heap H).Ns b m := fun ⟨o, es, ep, e, d, r⟩ => ⟨o, es, ep, out e fun _ => dicts e d, d, r⟩
  have kin2 : K.In (hidT st.heap H) := fun b o e => out (kin b o e) fun z q => by
    rw [q] at z e
    rw [free z] at e
    cases e
  obtain ⟨ml, l1, l2⟩ := lim
  have md : Mod K mg (hidT st.heap H) := ⟨kin2, spaces gn, ⟨mb, spaces bn, bb⟩, ⟨ml, spaces l1, l2⟩⟩
  refine ⟨⟨rfl, md, fun b o e => of_hidT e, Nat.le_of_eq (hidT_size _ _), trivial, fun b z => ?_, good, .of_eq gens⟩, kin2, spaces gn⟩
  cases z
theorem head_env (kin : K.In st.heap) (gn : st.heap.Ns mainGlobals mg) (bn : st.heap.Ns builtinsNs mb) (bb : ∀ y : Str, y ≠ "__name__" → mb y = bootBuiltins y)
    (lim : st.heap.NoLimit) (gens : st.gens = #[]) (at_ : st.heap.get? p = some (scriptObj us)) (allI : IntsAre us zs) (short : zs.length ≤ sizeLine) :
    ∃ H : Hp, (∀ b, H b = none ∨ ∃ o ys, H b = some (.frz o (.lst ys))) ∧ SqL K H p (zs.map V.int) ∧ Env0 P w K mg (hidT st.heap H) callerA [] st H ∧ K.In (hidT st.heap H) ∧ (hidT st.heap H).Ns mainGlobals mg := by
  have vals := vals_ints allI
  cases known : K.lookup p with
  | some o =>
    have same := kin p o known
    rw [at_] at same
    cases same
    refine ⟨fun _ => none, fun _ => .inl rfl, .inr ⟨scriptObj us, us.toArray, _, known, rfl, rfl, rfl, ?_, by simpa using vals⟩, head_of kin gn bn bb lim gens at_ (fun b z => absurd rfl z) (fun z => absurd rfl z) fun b u z => ?_⟩
    · rw [List.size_toArray, allI.length]
      exact short
    · cases z
  | none =>
    refine ⟨fun b => if b = p then some (.frz (scriptObj us) (.lst (zs.map V.int))) else none, fun b => ?_, .inl (.inr ⟨scriptObj us, if_pos rfl⟩), head_of kin gn bn bb lim gens at_ (fun b z => ?_) (fun _ => known) fun b u z => ?_⟩
    · by_cases q : b = p
      · exact .inr ⟨scriptObj us, zs.map V.int, if_pos q⟩
      · exact .inl (if_neg q)
    · by_cases q : b = p
      · exact q
      · exact absurd (if_neg q) z
    · by_cases q : b = p
      · subst q
        rw [if_pos rfl] at z
        cases z
        exact ⟨at_, by rw [List.length_map]; exact short, us, _, vals, at_⟩
      · rw [if_neg q] at z
        cases z
theorem law_callG {k : Nat} {f : Addr} {fd : FuncData} {y : Str} {sp : List V → Hp → VK → Prop} (kin : K.In st.heap) (gn : st.heap.Ns mainGlobals mg) (bn : st.heap.Ns builtinsNs mb) (bb : ∀ y : Str, y ≠ "__name__" → mb y = bootBuiltins y)
    (lim : st.heap.NoLimit) (gens : st.gens = #[]) (at_ : st.heap.get? p = some (scriptObj us)) (allI : IntsAre us zs) (short : zs.length ≤ sizeLine) (room : Room k callerA)
    (F : ∀ base : Heap, K.In base → base.Ns mainGlobals mg → FnG P w K mg base k f fd [y] sp) (bd : ∀ (s : Shared) (u : Value), BindsTo s fd ⟨[u], []⟩ [(y, u)])
    (due : ∀ H : Hp, SqL K H p (zs.map V.int) → sp [.ref p] H fun v _ => v = .bl true) :
    codeAny (model P w) callerA (.call (.ref f) ⟨[.ref p], []⟩) (fun r s' => r = .ok (.ret (.bool true)) ∧ OldK st.heap s'.heap ∧ s'.os = st.os ∧ AllBare s'.gens) st := by
  obtain ⟨H, only, seq, env, kin2, gn2⟩ := head_env (P := P) (w := w) kin gn bn bb lim gens at_ allI short
  refine codeAny_mono ((F _ kin2 gn2).go callerA [] st H ⟨[.ref p], []⟩ [.ref p] [.ref p] _ room rfl env (bd st (.ref p)) (.cons rfl .nil) (due H seq)) fun r s' res => ?_
  match r, res with
  | .ok (.ret u), ⟨v, H', os, bare, un, good, rv, q⟩ =>
    have q' : v = .bl true := q
    subst q'
    obtain rfl : u = Value.bool true := rv
    refine ⟨rfl, OldK.of_keep fun b o e => ?_, os, bare⟩
    rcases only b with z | ⟨o2, ys, z⟩
    · exact un.keep b o e z (fun i => nomatch i) (by simp)
    · obtain ⟨e1, _⟩ := env.hok b _ z
      obtain ⟨e2, _⟩ := good b _ (un.frzs b o2 _ z)
      exact e2.trans (e1.symm.trans e)
  | .ok .next, z => exact False.elim z
  | .ok .brk, z => exact False.elim z
  | .ok .cont, z => exact False.elim z
  | .error e, z => exact False.elim z
end
/-- the goal that the head leaves, from the law's promise -/
theorem walk_ofG {l : PySem.W.OpenLaw} {n k : Nat} {q : Program} {loose : List Str} {XP : (Str → Option Value) → Heap → Prop} {YP : World → Heap → Prop} {r : DefRec} {K : Params → PySem.W.Frag} {y : Str} {d : DOs}
    (most : l.most = some n) (small : n ≤ sizeLine) (plain : r.params.defaults = []) (room : Room k callerA) (kin : ∀ (w : World) (h : Heap), YP w h → (K w.params).In h)
    (F : ∀ (w : World) (mg : Str → Option Value) (f : Addr) (h : Heap), (K w.params).In h → h.Ns mainGlobals mg → mg r.name = some (.ref f) →
      ∃ fd : FuncData, (∀ (s : Shared) (u : Value), BindsTo s fd ⟨[u], []⟩ [(y, u)]) ∧ ∀ base : Heap, (K w.params).In base → base.Ns mainGlobals mg → FnG l.prog w (K w.params) mg base k f fd [y] (spOf (K w.params) 1 d))
    (due : ∀ ns : List Int, ns.length ≤ n → d [.raw ns] (fun _ => none) fun x _ => x = .dat (.bool true)) :
    PySem.W.WalkO q loose XP YP l.row.toRowW r [] (fun f vs => PySem.call f vs) := by
  refine Att.attach_call most plain fun w s₀ st mg mb f o pm cd doc p us zs G Y ho hd hcd hmg at_ allI short gens => ?_
  obtain ⟨fd, bd, hF⟩ := F w mg f _ (kin w _ Y) G.T.g hmg
  refine law_callG (kin w _ Y) G.T.g G.T.b G.T.builtins G.T.nolimit gens at_ allI (Nat.le_trans short small) room hF bd fun H seq => ?_
  have hh : hid H (fun _ => none) = H := funext fun b => hid_none rfl
  refine ⟨rfl, [.raw zs], fun _ => none, fun x _ => x = .dat (.bool true), fun a m z => (by cases z), .cons ⟨p, rfl, by rw [hh]; exact seq⟩ .nil, due zs short, fun v H' a μ' _ _ rel e => ?_⟩
  subst e
  cases rel
  rfl
end DL


set_option maxHeartbeats 4000000
namespace K1
open PySem PySem.Spec PyProof.Rows L2 RZ DL
section
variable {K : PySem.W.Frag} {h : Heap} {mg : Str → Option Value}
/-- a def of the written part, as its module has it -/
abbrev fdOf (x : Str) (st : Stmt) (kV dc pm : Value) (an : Option Addr) (cd ct : Value) : FuncData := PySem.W.fnOf x x (defArgs st) (defBody st) (defScope st) .none kV dc pm an cd ct
theorem at_def {x : Str} {st : Stmt} {f : Addr} {od an : Option Addr} {sl : Array (Option Value)} {oc kV dc pm cd ct : Value} {ps : List Str} (X : K.In h) (G : h.Ns mainGlobals mg) (a : PySem.W.nsIn K mainGlobals x = some (some (.ref f)))
    (l : K.lookup f = some ⟨oc, od, .func (fdOf x st kV dc pm an cd ct), sl⟩) (c : PySem.W.codeIn K cd x = true) (k : PySem.W.keepIn K (.ref f) = true)
    (hb : ∀ (r1 r2 r3 : Value) (r4 : Option Addr) (r5 r6 : Value) (us : List Value), us.length = ps.length → bindArgs (fdOf x st r1 r2 r3 r4 r5 r6) ⟨us, []⟩ = pure (ps.zip us)) (hn : ps = argNames (fdOf x st kV dc pm an cd ct)) : DefAt K mg x st ps f (fdOf x st kV dc pm an cd ct) :=
  ⟨fun_mk l c k, PySem.W.mg_of X G a, (fun_mk l c k).binds hb, hn⟩
theorem all_known {P : Program} {w : World} {top : Addr} (X : K.In h) (G : h.Ns mainGlobals mg) (htop : mg "law" = some (.ref top))
    {f0 : Addr} {od0 an0 : Option Addr} {sl0 : Array (Option Value)} {oc0 kV0 dc0 pm0 cd0 ct0 : Value}
    (a0 : PySem.W.nsIn K mainGlobals "lasts_by_caller" = some (some (.ref f0))) (l0 : K.lookup f0 = some ⟨oc0, od0, .func (fdOf "lasts_by_caller" s_lasts_by_caller kV0 dc0 pm0 an0 cd0 ct0), sl0⟩) (c0 : PySem.W.codeIn K cd0 "lasts_by_caller" = true) (k0 : PySem.W.keepIn K (.ref f0) = true)
    {f1 : Addr} {od1 an1 : Option Addr} {sl1 : Array (Option Value)} {oc1 kV1 dc1 pm1 cd1 ct1 : Value}
    (a1 : PySem.W.nsIn K mainGlobals "_is_on_its_way" = some (some (.ref f1))) (l1 : K.lookup f1 = some ⟨oc1, od1, .func (fdOf "_is_on_its_way" s_is_on_its_way kV1 dc1 pm1 an1 cd1 ct1), sl1⟩) (c1 : PySem.W.codeIn K cd1 "_is_on_its_way" = true) (k1 : PySem.W.keepIn K (.ref f1) = true)
    {f2 : Addr} {od2 an2 : Option Addr} {sl2 : Array (Option Value)} {oc2 kV2 dc2 pm2 cd2 ct2 : Value}
    (a2 : PySem.W.nsIn K mainGlobals "who_owes" = some (some (.ref f2))) (l2 : K.lookup f2 = some ⟨oc2, od2, .func (fdOf "who_owes" s_who_owes kV2 dc2 pm2 an2 cd2 ct2), sl2⟩) (c2 : PySem.W.codeIn K cd2 "who_owes" = true) (k2 : PySem.W.keepIn K (.ref f2) = true)
    {f3 : Addr} {od3 an3 : Option Addr} {sl3 : Array (Option Value)} {oc3 kV3 dc3 pm3 cd3 ct3 : Value}
    (a3 : PySem.W.nsIn K mainGlobals "check_caller" = some (some (.ref f3))) (l3 : K.lookup f3 = some ⟨oc3, od3, .func (fdOf "check_caller" s_check_caller kV3 dc3 pm3 an3 cd3 ct3), sl3⟩) (c3 : PySem.W.codeIn K cd3 "check_caller" = true) (k3 : PySem.W.keepIn K (.ref f3) = true)
    {f4 : Addr} {od4 an4 : Option Addr} {sl4 : Array (Option Value)} {oc4 kV4 dc4 pm4 cd4 ct4 : Value}
    (a4 : PySem.W.nsIn K mainGlobals "find_way" = some (some (.ref f4))) (l4 : K.lookup f4 = some ⟨oc4, od4, .func (fdOf "find_way" s_find_way kV4 dc4 pm4 an4 cd4 ct4), sl4⟩) (c4 : PySem.W.codeIn K cd4 "find_way" = true) (k4 : PySem.W.keepIn K (.ref f4) = true)
    {f5 : Addr} {od5 an5 : Option Addr} {sl5 : Array (Option Value)} {oc5 kV5 dc5 pm5 cd5 ct5 : Value}
    (a5 : PySem.W.nsIn K mainGlobals "ways_at" = some (some (.ref f5))) (l5 : K.lookup f5 = some ⟨oc5, od5, .func (fdOf "ways_at" s_ways_at kV5 dc5 pm5 an5 cd5 ct5), sl5⟩) (c5 : PySem.W.codeIn K cd5 "ways_at" = true) (k5 : PySem.W.keepIn K (.ref f5) = true)
    {f6 : Addr} {od6 an6 : Option Addr} {sl6 : Array (Option Value)} {oc6 kV6 dc6 pm6 cd6 ct6 : Value}
    (a6 : PySem.W.nsIn K mainGlobals "ends_at" = some (some (.ref f6))) (l6 : K.lookup f6 = some ⟨oc6, od6, .func (fdOf "ends_at" s_ends_at kV6 dc6 pm6 an6 cd6 ct6), sl6⟩) (c6 : PySem.W.codeIn K cd6 "ends_at" = true) (k6 : PySem.W.keepIn K (.ref f6) = true)
    {f7 : Addr} {od7 an7 : Option Addr} {sl7 : Array (Option Value)} {oc7 kV7 dc7 pm7 cd7 ct7 : Value}
    (a7 : PySem.W.nsIn K mainGlobals "beats_from" = some (some (.ref f7))) (l7 : K.lookup f7 = some ⟨oc7, od7, .func (fdOf "beats_from" s_beats_from kV7 dc7 pm7 an7 cd7 ct7), sl7⟩) (c7 : PySem.W.codeIn K cd7 "beats_from" = true) (k7 : PySem.W.keepIn K (.ref f7) = true)
    {f8 : Addr} {od8 an8 : Option Addr} {sl8 : Array (Option Value)} {oc8 kV8 dc8 pm8 cd8 ct8 : Value}
    (a8 : PySem.W.nsIn K mainGlobals "part_of" = some (some (.ref f8))) (l8 : K.lookup f8 = some ⟨oc8, od8, .func (fdOf "part_of" s_part_of kV8 dc8 pm8 an8 cd8 ct8), sl8⟩) (c8 : PySem.W.codeIn K cd8 "part_of" = true) (k8 : PySem.W.keepIn K (.ref f8) = true)
    {f9 : Addr} {od9 an9 : Option Addr} {sl9 : Array (Option Value)} {oc9 kV9 dc9 pm9 cd9 ct9 : Value}
    (a9 : PySem.W.nsIn K mainGlobals "lean" = some (some (.ref f9))) (l9 : K.lookup f9 = some ⟨oc9, od9, .func (fdOf "lean" s_lean kV9 dc9 pm9 an9 cd9 ct9), sl9⟩) (c9 : PySem.W.codeIn K cd9 "lean" = true) (k9 : PySem.W.keepIn K (.ref f9) = true)
    {f10 : Addr} {od10 an10 : Option Addr} {sl10 : Array (Option Value)} {oc10 kV10 dc10 pm10 cd10 ct10 : Value}
    (a10 : PySem.W.nsIn K mainGlobals "lean_from" = some (some (.ref f10))) (l10 : K.lookup f10 = some ⟨oc10, od10, .func (fdOf "lean_from" s_lean_from kV10 dc10 pm10 an10 cd10 ct10), sl10⟩) (c10 : PySem.W.codeIn K cd10 "lean_from" = true) (k10 : PySem.W.keepIn K (.ref f10) = true)
    {f11 : Addr} {od11 an11 : Option Addr} {sl11 : Array (Option Value)} {oc11 kV11 dc11 pm11 cd11 ct11 : Value}
    (a11 : PySem.W.nsIn K mainGlobals "wind" = some (some (.ref f11))) (l11 : K.lookup f11 = some ⟨oc11, od11, .func (fdOf "wind" s_wind kV11 dc11 pm11 an11 cd11 ct11), sl11⟩) (c11 : PySem.W.codeIn K cd11 "wind" = true) (k11 : PySem.W.keepIn K (.ref f11) = true)
    {f12 : Addr} {od12 an12 : Option Addr} {sl12 : Array (Option Value)} {oc12 kV12 dc12 pm12 cd12 ct12 : Value}
    (a12 : PySem.W.nsIn K mainGlobals "rings_of" = some (some (.ref f12))) (l12 : K.lookup f12 = some ⟨oc12, od12, .func (fdOf "rings_of" s_rings_of kV12 dc12 pm12 an12 cd12 ct12), sl12⟩) (c12 : PySem.W.codeIn K cd12 "rings_of" = true) (k12 : PySem.W.keepIn K (.ref f12) = true)
    {f13 : Addr} {od13 an13 : Option Addr} {sl13 : Array (Option Value)} {oc13 kV13 dc13 pm13 cd13 ct13 : Value}
    (a13 : PySem.W.nsIn K mainGlobals "_rings_from" = some (some (.ref f13))) (l13 : K.lookup f13 = some ⟨oc13, od13, .func (fdOf "_rings_from" s_rings_from kV13 dc13 pm13 an13 cd13 ct13), sl13⟩) (c13 : PySem.W.codeIn K cd13 "_rings_from" = true) (k13 : PySem.W.keepIn K (.ref f13) = true)
    {f14 : Addr} {od14 an14 : Option Addr} {sl14 : Array (Option Value)} {oc14 kV14 dc14 pm14 cd14 ct14 : Value}
    (a14 : PySem.W.nsIn K mainGlobals "heights" = some (some (.ref f14))) (l14 : K.lookup f14 = some ⟨oc14, od14, .func (fdOf "heights" s_heights kV14 dc14 pm14 an14 cd14 ct14), sl14⟩) (c14 : PySem.W.codeIn K cd14 "heights" = true) (k14 : PySem.W.keepIn K (.ref f14) = true)
    {f15 : Addr} {od15 an15 : Option Addr} {sl15 : Array (Option Value)} {oc15 kV15 dc15 pm15 cd15 ct15 : Value}
    (a15 : PySem.W.nsIn K mainGlobals "_numbers_from" = some (some (.ref f15))) (l15 : K.lookup f15 = some ⟨oc15, od15, .func (fdOf "_numbers_from" s_numbers_from kV15 dc15 pm15 an15 cd15 ct15), sl15⟩) (c15 : PySem.W.codeIn K cd15 "_numbers_from" = true) (k15 : PySem.W.keepIn K (.ref f15) = true)
    {f16 : Addr} {od16 an16 : Option Addr} {sl16 : Array (Option Value)} {oc16 kV16 dc16 pm16 cd16 ct16 : Value}
    (a16 : PySem.W.nsIn K mainGlobals "winding" = some (some (.ref f16))) (l16 : K.lookup f16 = some ⟨oc16, od16, .func (fdOf "winding" s_winding kV16 dc16 pm16 an16 cd16 ct16), sl16⟩) (c16 : PySem.W.codeIn K cd16 "winding" = true) (k16 : PySem.W.keepIn K (.ref f16) = true)
    {f17 : Addr} {od17 an17 : Option Addr} {sl17 : Array (Option Value)} {oc17 kV17 dc17 pm17 cd17 ct17 : Value}
    (a17 : PySem.W.nsIn K mainGlobals "_law_tape" = some (some (.ref f17))) (l17 : K.lookup f17 = some ⟨oc17, od17, .func (fdOf "_law_tape" s_law_tape kV17 dc17 pm17 an17 cd17 ct17), sl17⟩) (c17 : PySem.W.codeIn K cd17 "_law_tape" = true) (k17 : PySem.W.keepIn K (.ref f17) = true)
    {f18 : Addr} {od18 an18 : Option Addr} {sl18 : Array (Option Value)} {oc18 kV18 dc18 pm18 cd18 ct18 : Value}
    (a18 : PySem.W.nsIn K mainGlobals "_law_draw" = some (some (.ref f18))) (l18 : K.lookup f18 = some ⟨oc18, od18, .func (fdOf "_law_draw" s_law_draw kV18 dc18 pm18 an18 cd18 ct18), sl18⟩) (c18 : PySem.W.codeIn K cd18 "_law_draw" = true) (k18 : PySem.W.keepIn K (.ref f18) = true)
    {f19 : Addr} {od19 an19 : Option Addr} {sl19 : Array (Option Value)} {oc19 kV19 dc19 pm19 cd19 ct19 : Value}
    (a19 : PySem.W.nsIn K mainGlobals "_law_folded" = some (some (.ref f19))) (l19 : K.lookup f19 = some ⟨oc19, od19, .func (fdOf "_law_folded" s_law_folded kV19 dc19 pm19 an19 cd19 ct19), sl19⟩) (c19 : PySem.W.codeIn K cd19 "_law_folded" = true) (k19 : PySem.W.keepIn K (.ref f19) = true)
    {f20 : Addr} {od20 an20 : Option Addr} {sl20 : Array (Option Value)} {oc20 kV20 dc20 pm20 cd20 ct20 : Value}
    (a20 : PySem.W.nsIn K mainGlobals "_law_names" = some (some (.ref f20))) (l20 : K.lookup f20 = some ⟨oc20, od20, .func (fdOf "_law_names" s_law_names kV20 dc20 pm20 an20 cd20 ct20), sl20⟩) (c20 : PySem.W.codeIn K cd20 "_law_names" = true) (k20 : PySem.W.keepIn K (.ref f20) = true)
    {f21 : Addr} {od21 an21 : Option Addr} {sl21 : Array (Option Value)} {oc21 kV21 dc21 pm21 cd21 ct21 : Value}
    (a21 : PySem.W.nsIn K mainGlobals "_law_same" = some (some (.ref f21))) (l21 : K.lookup f21 = some ⟨oc21, od21, .func (fdOf "_law_same" s_law_same kV21 dc21 pm21 an21 cd21 ct21), sl21⟩) (c21 : PySem.W.codeIn K cd21 "_law_same" = true) (k21 : PySem.W.keepIn K (.ref f21) = true)
    {f22 : Addr} {od22 an22 : Option Addr} {sl22 : Array (Option Value)} {oc22 kV22 dc22 pm22 cd22 ct22 : Value}
    (a22 : PySem.W.nsIn K mainGlobals "_law_told_right" = some (some (.ref f22))) (l22 : K.lookup f22 = some ⟨oc22, od22, .func (fdOf "_law_told_right" s_law_told_right kV22 dc22 pm22 an22 cd22 ct22), sl22⟩) (c22 : PySem.W.codeIn K cd22 "_law_told_right" = true) (k22 : PySem.W.keepIn K (.ref f22) = true)
    {f23 : Addr} {od23 an23 : Option Addr} {sl23 : Array (Option Value)} {oc23 kV23 dc23 pm23 cd23 ct23 : Value}
    (a23 : PySem.W.nsIn K mainGlobals "_law_kindled_right" = some (some (.ref f23))) (l23 : K.lookup f23 = some ⟨oc23, od23, .func (fdOf "_law_kindled_right" s_law_kindled_right kV23 dc23 pm23 an23 cd23 ct23), sl23⟩) (c23 : PySem.W.codeIn K cd23 "_law_kindled_right" = true) (k23 : PySem.W.keepIn K (.ref f23) = true)
    {f24 : Addr} {od24 an24 : Option Addr} {sl24 : Array (Option Value)} {oc24 kV24 dc24 pm24 cd24 ct24 : Value}
    (a24 : PySem.W.nsIn K mainGlobals "_law_waves_right" = some (some (.ref f24))) (l24 : K.lookup f24 = some ⟨oc24, od24, .func (fdOf "_law_waves_right" s_law_waves_right kV24 dc24 pm24 an24 cd24 ct24), sl24⟩) (c24 : PySem.W.codeIn K cd24 "_law_waves_right" = true) (k24 : PySem.W.keepIn K (.ref f24) = true)
    {f25 : Addr} {od25 an25 : Option Addr} {sl25 : Array (Option Value)} {oc25 kV25 dc25 pm25 cd25 ct25 : Value}
    (a25 : PySem.W.nsIn K mainGlobals "law" = some (some (.ref f25))) (l25 : K.lookup f25 = some ⟨oc25, od25, .func (fdOf "law" s_law kV25 dc25 pm25 an25 cd25 ct25), sl25⟩) (c25 : PySem.W.codeIn K cd25 "law" = true) (k25 : PySem.W.keepIn K (.ref f25) = true)
    (z_isinstance : PySem.W.nsIn K mainGlobals "isinstance" = some none)
    (z_len : PySem.W.nsIn K mainGlobals "len" = some none)
    (z_all : PySem.W.nsIn K mainGlobals "all" = some none)
    (z_zip : PySem.W.nsIn K mainGlobals "zip" = some none)
    (z_range : PySem.W.nsIn K mainGlobals "range" = some none)
    (z_enumerate : PySem.W.nsIn K mainGlobals "enumerate" = some none)
    (z_sorted : PySem.W.nsIn K mainGlobals "sorted" = some none)
    (z_abs : PySem.W.nsIn K mainGlobals "abs" = some none)
    (z_max : PySem.W.nsIn K mainGlobals "max" = some none)
    (z_min : PySem.W.nsIn K mainGlobals "min" = some none)
    (z_repr : PySem.W.nsIn K mainGlobals "repr" = some none)
    (z_int : PySem.W.nsIn K mainGlobals "int" = some none)
    (z_str : PySem.W.nsIn K mainGlobals "str" = some none)
    (z_bool : PySem.W.nsIn K mainGlobals "bool" = some none)
    (z_list : PySem.W.nsIn K mainGlobals "list" = some none)
    (z_tuple : PySem.W.nsIn K mainGlobals "tuple" = some none)
    (z_dict : PySem.W.nsIn K mainGlobals "dict" = some none)
    (z_set : PySem.W.nsIn K mainGlobals "set" = some none)
    (z_any : PySem.W.nsIn K mainGlobals "any" = some none)
    (z_sum : PySem.W.nsIn K mainGlobals "sum" = some none)
    (v_heappop : PySem.W.nsIn K mainGlobals "heappop" = some (some (.builtin "_heapq.heappop")))
    (v_heappush : PySem.W.nsIn K mainGlobals "heappush" = some (some (.builtin "_heapq.heappush")))
    : ∃ fd : FuncData, (∀ (s : Shared) (u : Value), BindsTo s fd ⟨[u], []⟩ [("script", u)]) ∧ ∀ base : Heap, K.In base → base.Ns mainGlobals mg → FnG P w K mg base 12 top fd ["script"] (spOf K 1 d_law) := by
  have T : Txt K mg := ⟨PySem.W.mg_none_of X G z_isinstance, PySem.W.mg_none_of X G z_len, PySem.W.mg_none_of X G z_all, PySem.W.mg_none_of X G z_zip, PySem.W.mg_none_of X G z_range, PySem.W.mg_none_of X G z_enumerate, PySem.W.mg_none_of X G z_sorted, PySem.W.mg_none_of X G z_abs, PySem.W.mg_none_of X G z_max, PySem.W.mg_none_of X G z_min, PySem.W.mg_none_of X G z_repr, PySem.W.mg_none_of X G z_int, PySem.W.mg_none_of X G z_str, PySem.W.mg_none_of X G z_bool, PySem.W.mg_none_of X G z_list, PySem.W.mg_none_of X G z_tuple, PySem.W.mg_none_of X G z_dict, PySem.W.mg_none_of X G z_set, PySem.W.mg_none_of X G z_any, PySem.W.mg_none_of X G z_sum, PySem.W.mg_of X G v_heappop, PySem.W.mg_of X G v_heappush⟩
  have D0 := at_def (ps := ["plan", "picture"]) X G a0 l0 c0 k0 (fun _ _ _ _ _ _ us hl => match us, hl with | [_, _], _ => rfl) rfl
  have D1 := at_def (ps := ["picture", "last", "beats"]) X G a1 l1 c1 k1 (fun _ _ _ _ _ _ us hl => match us, hl with | [_, _, _], _ => rfl) rfl
  have D2 := at_def (ps := ["plan", "picture", "way"]) X G a2 l2 c2 k2 (fun _ _ _ _ _ _ us hl => match us, hl with | [_, _, _], _ => rfl) rfl
  have D3 := at_def (ps := ["plan", "caller"]) X G a3 l3 c3 k3 (fun _ _ _ _ _ _ us hl => match us, hl with | [_, _], _ => rfl) rfl
  have D4 := at_def (ps := ["plan", "name"]) X G a4 l4 c4 k4 (fun _ _ _ _ _ _ us hl => match us, hl with | [_, _], _ => rfl) rfl
  have D5 := at_def (ps := ["plan", "caller"]) X G a5 l5 c5 k5 (fun _ _ _ _ _ _ us hl => match us, hl with | [_, _], _ => rfl) rfl
  have D6 := at_def (ps := ["plan", "caller"]) X G a6 l6 c6 k6 (fun _ _ _ _ _ _ us hl => match us, hl with | [_, _], _ => rfl) rfl
  have D7 := at_def (ps := ["plan", "caller"]) X G a7 l7 c7 k7 (fun _ _ _ _ _ _ us hl => match us, hl with | [_, _], _ => rfl) rfl
  have D8 := at_def (ps := ["plan", "caller"]) X G a8 l8 c8 k8 (fun _ _ _ _ _ _ us hl => match us, hl with | [_, _], _ => rfl) rfl
  have D9 := at_def (ps := ["plan", "picture", "way"]) X G a9 l9 c9 k9 (fun _ _ _ _ _ _ us hl => match us, hl with | [_, _, _], _ => rfl) rfl
  have D10 := at_def (ps := ["plan", "picture", "caller", "way"]) X G a10 l10 c10 k10 (fun _ _ _ _ _ _ us hl => match us, hl with | [_, _, _, _], _ => rfl) rfl
  have D11 := at_def (ps := ["plan", "picture", "ring"]) X G a11 l11 c11 k11 (fun _ _ _ _ _ _ us hl => match us, hl with | [_, _, _], _ => rfl) rfl
  have D12 := at_def (ps := ["plan", "caller"]) X G a12 l12 c12 k12 (fun _ _ _ _ _ _ us hl => match us, hl with | [_, _], _ => rfl) rfl
  have D13 := at_def (ps := ["plan", "first"]) X G a13 l13 c13 k13 (fun _ _ _ _ _ _ us hl => match us, hl with | [_, _], _ => rfl) rfl
  have D14 := at_def (ps := ["plan", "picture", "caller"]) X G a14 l14 c14 k14 (fun _ _ _ _ _ _ us hl => match us, hl with | [_, _, _], _ => rfl) rfl
  have D15 := at_def (ps := ["plan", "picture", "caller"]) X G a15 l15 c15 k15 (fun _ _ _ _ _ _ us hl => match us, hl with | [_, _, _], _ => rfl) rfl
  have D16 := at_def (ps := ["plan", "picture", "caller"]) X G a16 l16 c16 k16 (fun _ _ _ _ _ _ us hl => match us, hl with | [_, _, _], _ => rfl) rfl
  have D17 := at_def (ps := ["script", "k"]) X G a17 l17 c17 k17 (fun _ _ _ _ _ _ us hl => match us, hl with | [_, _], _ => rfl) rfl
  have D18 := at_def (ps := ["tape", "many"]) X G a18 l18 c18 k18 (fun _ _ _ _ _ _ us hl => match us, hl with | [_, _], _ => rfl) rfl
  have D19 := at_def (ps := ["script", "many"]) X G a19 l19 c19 k19 (fun _ _ _ _ _ _ us hl => match us, hl with | [_, _], _ => rfl) rfl
  have D20 := at_def (ps := ["tape", "many"]) X G a20 l20 c20 k20 (fun _ _ _ _ _ _ us hl => match us, hl with | [_, _], _ => rfl) rfl
  have D21 := at_def (ps := ["found", "due"]) X G a21 l21 c21 k21 (fun _ _ _ _ _ _ us hl => match us, hl with | [_, _], _ => rfl) rfl
  have D22 := at_def (ps := ["plan", "picture", "ring", "due"]) X G a22 l22 c22 k22 (fun _ _ _ _ _ _ us hl => match us, hl with | [_, _, _, _], _ => rfl) rfl
  have D23 := at_def (ps := ["tape"]) X G a23 l23 c23 k23 (fun _ _ _ _ _ _ us hl => match us, hl with | [_], _ => rfl) rfl
  have D24 := at_def (ps := ["tape"]) X G a24 l24 c24 k24 (fun _ _ _ _ _ _ us hl => match us, hl with | [_], _ => rfl) rfl
  have D25 := at_def (ps := ["script"]) X G a25 l25 c25 k25 (fun _ _ _ _ _ _ us hl => match us, hl with | [_], _ => rfl) rfl
  obtain rfl : top = f25 := by
    have e := htop.symm.trans D25.at_
    cases e
    rfl
  refine ⟨fdOf "law" s_law kV25 dc25 pm25 an25 cd25 ct25, fun s u => .of_eq rfl, fun base _ _ => ?_⟩
  have p19 := ok_law_folded (P := P) (w := w) (base := base) T  D19
  have p17 := ok_law_tape (P := P) (w := w) (base := base) T  D17
  have p18 := ok_law_draw (P := P) (w := w) (base := base) T  D18
  have p20 := ok_law_names (P := P) (w := w) (base := base) T p18 D20
  have p21 := ok_law_same (P := P) (w := w) (base := base) T  D21 5
  have p4 := ok_find_way (P := P) (w := w) (base := base) T  D4
  have p0 := ok_lasts_by_caller (P := P) (w := w) (base := base) T  D0
  have p1 := ok_is_on_its_way (P := P) (w := w) (base := base) T  D1
  have p2 := ok_who_owes (P := P) (w := w) (base := base) T p0 p1 D2
  have p9 := ok_lean (P := P) (w := w) (base := base) T p4 p2 D9
  have p3 := ok_check_caller (P := P) (w := w) (base := base) T  D3
  have p6 := ok_ends_at (P := P) (w := w) (base := base) T  D6
  have p5 := ok_ways_at (P := P) (w := w) (base := base) T p3 p6 D5
  have p10 := ok_lean_from (P := P) (w := w) (base := base) T p4 p9 D10
  have p15 := ok_numbers_fromN (P := P) (w := w) (base := base) T p5 p10 D15
  have p14 := ok_heightsN (P := P) (w := w) (base := base) T p3 p15 D14
  have p7 := ok_beats_from (P := P) (w := w) (base := base) T p6 D7
  have p8 := ok_part_of (P := P) (w := w) (base := base) T p7 D8
  have p13 := ok_rings_from (P := P) (w := w) (base := base) T p5 D13
  have p12 := ok_rings_of (P := P) (w := w) (base := base) T p8 p13 D12
  have p11 := ok_wind (P := P) (w := w) (base := base) T p10 D11
  have p16 := ok_windingN (P := P) (w := w) (base := base) T p3 p12 p11 D16
  have p22 := ok_law_told_right (P := P) (w := w) (base := base) T p21 p14 p16 p11 D22
  have p23 := ok_law_kindled_right (P := P) (w := w) (base := base) T p18 p20 p21 p9 p22 D23
  have p24 := ok_law_waves_right (P := P) (w := w) (base := base) T p18 p20 p21 p9 p22 D24
  exact ok_law_body (P := P) (w := w) (base := base) T p19 p17 p23 p24 D25
end
end K1
open PySem PySem.W PyProof.Rows
set_option maxHeartbeats 0 in
theorem PySem.Challenge.cw_hoarseheath_k23_winds_known_by_hand_holds : PySem.Challenge.rw_hoarseheath_k23_winds_known_by_hand.Holds := by
  w_on
  o_law
  k_head
  case hw => w_witness2
  k_fill
  refine DL.walk_ofG (l := PySem.Challenge.rw_hoarseheath_k23_winds_known_by_hand) (n := 63) (k := 12) (y := "script") (d := K1.d_law) rfl (by decide) rfl ⟨rfl, by decide, by decide⟩ (fun w h Y => kIn_of Y) ?F fun ns q => ⟨ns, rfl, q, fun _ => rfl⟩
  case F =>
    intro w mg top h KX G htop
    refine' K1.all_known KX G htop ?a0 ?l0 ?c0 ?k0 ?a1 ?l1 ?c1 ?k1 ?a2 ?l2 ?c2 ?k2 ?a3 ?l3 ?c3 ?k3 ?a4 ?l4 ?c4 ?k4 ?a5 ?l5 ?c5 ?k5 ?a6 ?l6 ?c6 ?k6 ?a7 ?l7 ?c7 ?k7 ?a8 ?l8 ?c8 ?k8 ?a9 ?l9 ?c9 ?k9 ?a10 ?l10 ?c10 ?k10 ?a11 ?l11 ?c11 ?k11 ?a12 ?l12 ?c12 ?k12 ?a13 ?l13 ?c13 ?k13 ?a14 ?l14 ?c14 ?k14 ?a15 ?l15 ?c15 ?k15 ?a16 ?l16 ?c16 ?k16 ?a17 ?l17 ?c17 ?k17 ?a18 ?l18 ?c18 ?k18 ?a19 ?l19 ?c19 ?k19 ?a20 ?l20 ?c20 ?k20 ?a21 ?l21 ?c21 ?k21 ?a22 ?l22 ?c22 ?k22 ?a23 ?l23 ?c23 ?k23 ?a24 ?l24 ?c24 ?k24 ?a25 ?l25 ?c25 ?k25 ?z_isinstance ?z_len ?z_all ?z_zip ?z_range ?z_enumerate ?z_sorted ?z_abs ?z_max ?z_min ?z_repr ?z_int ?z_str ?z_bool ?z_list ?z_tuple ?z_dict ?z_set ?z_any ?z_sum ?v_heappop ?v_heappush
    (case a0 => k_is)
    (case l0 => k_is)
    (case c0 => k_is)
    (case k0 => k_is)
    (case a1 => k_is)
    (case l1 => k_is)
    (case c1 => k_is)
    (case k1 => k_is)
    (case a2 => k_is)
    (case l2 => k_is)
    (case c2 => k_is)
    (case k2 => k_is)
    (case a3 => k_is)
    (case l3 => k_is)
    (case c3 => k_is)
    (case k3 => k_is)
    (case a4 => k_is)
    (case l4 => k_is)
    (case c4 => k_is)
    (case k4 => k_is)
    (case a5 => k_is)
    (case l5 => k_is)
    (case c5 => k_is)
    (case k5 => k_is)
    (case a6 => k_is)
    (case l6 => k_is)
    (case c6 => k_is)
    (case k6 => k_is)
    (case a7 => k_is)
    (case l7 => k_is)
    (case c7 => k_is)
    (case k7 => k_is)
    (case a8 => k_is)
    (case l8 => k_is)
    (case c8 => k_is)
    (case k8 => k_is)
    (case a9 => k_is)
    (case l9 => k_is)
    (case c9 => k_is)
    (case k9 => k_is)
    (case a10 => k_is)
    (case l10 => k_is)
    (case c10 => k_is)
    (case k10 => k_is)
    (case a11 => k_is)
    (case l11 => k_is)
    (case c11 => k_is)
    (case k11 => k_is)
    (case a12 => k_is)
    (case l12 => k_is)
    (case c12 => k_is)
    (case k12 => k_is)
    (case a13 => k_is)
    (case l13 => k_is)
    (case c13 => k_is)
    (case k13 => k_is)
    (case a14 => k_is)
    (case l14 => k_is)
    (case c14 => k_is)
    (case k14 => k_is)
    (case a15 => k_is)
    (case l15 => k_is)
    (case c15 => k_is)
    (case k15 => k_is)
    (case a16 => k_is)
    (case l16 => k_is)
    (case c16 => k_is)
    (case k16 => k_is)
    (case a17 => k_is)
    (case l17 => k_is)
    (case c17 => k_is)
    (case k17 => k_is)
    (case a18 => k_is)
    (case l18 => k_is)
    (case c18 => k_is)
    (case k18 => k_is)
    (case a19 => k_is)
    (case l19 => k_is)
    (case c19 => k_is)
    (case k19 => k_is)
    (case a20 => k_is)
    (case l20 => k_is)
    (case c20 => k_is)
    (case k20 => k_is)
    (case a21 => k_is)
    (case l21 => k_is)
    (case c21 => k_is)
    (case k21 => k_is)
    (case a22 => k_is)
    (case l22 => k_is)
    (case c22 => k_is)
    (case k22 => k_is)
    (case a23 => k_is)
    (case l23 => k_is)
    (case c23 => k_is)
    (case k23 => k_is)
    (case a24 => k_is)
    (case l24 => k_is)
    (case c24 => k_is)
    (case k24 => k_is)
    (case a25 => k_is)
    (case l25 => k_is)
    (case c25 => k_is)
    (case k25 => k_is)
    (case z_isinstance => k_is)
    (case z_len => k_is)
    (case z_all => k_is)
    (case z_zip => k_is)
    (case z_range => k_is)
    (case z_enumerate => k_is)
    (case z_sorted => k_is)
    (case z_abs => k_is)
    (case z_max => k_is)
    (case z_min => k_is)
    (case z_repr => k_is)
    (case z_int => k_is)
    (case z_str => k_is)
    (case z_bool => k_is)
    (case z_list => k_is)
    (case z_tuple => k_is)
    (case z_dict => k_is)
    (case z_set => k_is)
    (case z_any => k_is)
    (case z_sum => k_is)
    (case v_heappop => k_is)
    (case v_heappush => k_is)

